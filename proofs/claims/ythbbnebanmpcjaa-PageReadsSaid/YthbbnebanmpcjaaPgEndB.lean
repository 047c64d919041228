import Derived.Test.YthbbnebanmpcjaaPgEndA
import Derived.Test.YthbbnebanmpcjaaEach6
import Derived.Test.YthbbnebanmpcjaaApp
import Derived.Test.YthbbnebanmpcjaaEachD
/- The document's page. -/
/- The document's page: where it lies; Number, LSN, Stamp, New, Count, low, all, Free, Slots. -/
namespace Go.Proofs.Ythbbnebanmpcjaa.Pg
open Go.ChangeShapes Go.WideShapes Go.ChangeAt Go.RowKit Go.IntWalk Go.Proofs.Mem Go.Proofs.Each
set_option linter.unusedVariables false
set_option linter.unusedSimpArgs false
/-- the document's page -/
structure Dp where
  L : Int
  N : Int
  O : Nat → Nat
  S : Nat → Nat
  B : Nat → Int
def dcell (p : Dp) (k : Nat) : Value := if k < 1 then .int .u64 p.L else if k < 2 then .int .u32 p.N else if k < 42 then .int .i64 (p.O (k - 2)) else if k < 82 then .int .i64 (p.S (k - 42)) else .int .u8 (p.B (k - 82))
def dpC (p : Dp) : Array Value := ((List.range 530).map (dcell p)).toArray
structure Dp.Ok (p : Dp) : Prop where
  L : 0 ≤ p.L ∧ p.L ≤ 18446744073709551615
  N : 0 ≤ p.N ∧ p.N ≤ 4294967295
  O : ∀ i, i < 40 → p.O i ≤ 65535
  S : ∀ i, i < 40 → p.S i ≤ 65535
  B : ∀ i, 0 ≤ p.B i ∧ p.B i ≤ 255
structure DpAt (w : World) (b : Nat) (p : Dp) : Prop where
  box : Box w b (dpC p) 68
  ok : p.Ok
theorem dpC_at (p : Dp) (k : Nat) (h : k < 530) : (dpC p)[k]? = some (dcell p k) := by
  unfold dpC
  simp [h]
section
variable {w w' : World} {b : Nat} {p : Dp}
theorem DpAt.later (h : DpAt w b p) (hb : Below w.heap.size w w') : DpAt w' b p := ⟨h.box.later hb, h.ok⟩
theorem DpAt.fr {S : Nat → Prop} (h : DpAt w b p) (hf : Fr S w w') (hn : ¬ S b) : DpAt w' b p := ⟨h.box.fr hf hn, h.ok⟩
theorem DpAt.l (h : DpAt w b p) : w.cell? ⟨b, 0, none⟩ = some (.int .u64 p.L) := by rw [h.box.cell, dpC_at _ _ (by decide)]; rfl
theorem DpAt.n (h : DpAt w b p) : w.cell? ⟨b, 1, none⟩ = some (.int .u32 p.N) := by rw [h.box.cell, dpC_at _ _ (by decide)]; rfl
theorem DpAt.o (h : DpAt w b p) (i : Nat) (hi : i < 40) : w.cell? ⟨b, 2 + i, none⟩ = some (.int .i64 (p.O i)) := by
  rw [h.box.cell, dpC_at _ _ (by omega)]
  unfold dcell
  rw [if_neg (by omega), if_neg (by omega), if_pos (by omega), show 2 + i - 2 = i by omega]
theorem DpAt.s (h : DpAt w b p) (i : Nat) (hi : i < 40) : w.cell? ⟨b, 42 + i, none⟩ = some (.int .i64 (p.S i)) := by
  rw [h.box.cell, dpC_at _ _ (by omega)]
  unfold dcell
  rw [if_neg (by omega), if_neg (by omega), if_neg (by omega), if_pos (by omega), show 42 + i - 42 = i by omega]
theorem DpAt.bb (h : DpAt w b p) (i : Nat) (hi : i < 448) : w.cell? ⟨b, 82 + i, none⟩ = some (.int .u8 (p.B i)) := by
  rw [h.box.cell, dpC_at _ _ (by omega)]
  unfold dcell
  rw [if_neg (by omega), if_neg (by omega), if_neg (by omega), if_neg (by omega), show 82 + i - 82 = i by omega]
theorem dpC_set (p q : Dp) (k : Nat) (v : Value) (h : ∀ i, i < 530 → dcell q i = if i = k then v else dcell p i) : (dpC p).setIfInBounds k v = dpC q := by
  apply Array.ext_getElem?
  intro i
  rw [Array.getElem?_setIfInBounds]
  by_cases hi : i < 530
  · rw [dpC_at q i hi, dpC_at p i hi, h i hi]
    by_cases e : k = i
    · subst e
      rw [if_pos rfl, if_pos rfl, if_pos (by unfold dpC; simp; exact hi)]
    · rw [if_neg e, if_neg (fun x => e x.symm)]
  · have hn : ∀ p : Dp, (dpC p)[i]? = none := fun p => by unfold dpC; simp; omega
    rw [hn, hn]
    split
    · rw [if_neg (by unfold dpC; simp; omega)]
    · rfl
def Dp.setL (p : Dp) (M : Int) : Dp := { p with L := M }
def Dp.setO (p : Dp) (s o : Nat) : Dp := { p with O := fun i => if i = s then o else p.O i }
def Dp.setS (p : Dp) (s l : Nat) : Dp := { p with S := fun i => if i = s then l else p.S i }
def Dp.setB (p : Dp) (k : Nat) (c : Int) : Dp := { p with B := fun i => if i = k then c else p.B i }
theorem DpAt.setL (h : DpAt w b p) (M : Int) (hM : 0 ≤ M ∧ M ≤ 18446744073709551615) : DpAt (w.setCell ⟨b, 0, none⟩ (.int .u64 M)) b (p.setL M) := by
  refine ⟨?_, ⟨hM, h.ok.N, h.ok.O, h.ok.S, h.ok.B⟩⟩
  have h9 := h.box.set_ 0 (.int .u64 M)
  rw [dpC_set p (p.setL M) 0 _ (fun i hi => by
    unfold dcell Dp.setL
    by_cases e : i = 0
    · subst e; rfl
    · rw [if_neg e]
      have e1 : ¬ i < 1 := by omega
      rw [if_neg e1, if_neg e1])] at h9
  exact h9
theorem DpAt.setO (h : DpAt w b p) (s o : Nat) (hs : s < 40) (ho : o ≤ 65535) : DpAt (w.setCell ⟨b, 2 + s, none⟩ (.int .i64 o)) b (p.setO s o) := by
  refine ⟨?_, ⟨h.ok.L, h.ok.N, fun i hi => ?_, h.ok.S, h.ok.B⟩⟩
  · have h9 := h.box.set_ (2 + s) (.int .i64 o)
    rw [dpC_set p (p.setO s o) (2 + s) _ (fun i hi => by
      unfold dcell Dp.setO
      by_cases e : i = 2 + s
      · subst e
        rw [if_pos rfl, if_neg (by omega), if_neg (by omega), if_pos (by omega)]
        simp
      · rw [if_neg e]
        by_cases e1 : i < 1
        · rw [if_pos e1, if_pos e1]
        · rw [if_neg e1, if_neg e1]
          by_cases e2 : i < 2
          · rw [if_pos e2, if_pos e2]
          · rw [if_neg e2, if_neg e2]
            by_cases e3 : i < 42
            · rw [if_pos e3, if_pos e3]
              have : ¬ i - 2 = s := by omega
              simp [this]
            · rw [if_neg e3, if_neg e3])] at h9
    exact h9
  · show (if i = s then o else p.O i) ≤ _
    split
    · exact ho
    · exact h.ok.O i hi
theorem DpAt.setS (h : DpAt w b p) (s l : Nat) (hs : s < 40) (hl : l ≤ 65535) : DpAt (w.setCell ⟨b, 42 + s, none⟩ (.int .i64 l)) b (p.setS s l) := by
  refine ⟨?_, ⟨h.ok.L, h.ok.N, h.ok.O, fun i hi => ?_, h.ok.B⟩⟩
  · have h9 := h.box.set_ (42 + s) (.int .i64 l)
    rw [dpC_set p (p.setS s l) (42 + s) _ (fun i hi => by
      unfold dcell Dp.setS
      by_cases e : i = 42 + s
      · subst e
        rw [if_pos rfl, if_neg (by omega), if_neg (by omega), if_neg (by omega), if_pos (by omega)]
        simp
      · rw [if_neg e]
        by_cases e1 : i < 1
        · rw [if_pos e1, if_pos e1]
        · rw [if_neg e1, if_neg e1]
          by_cases e2 : i < 2
          · rw [if_pos e2, if_pos e2]
          · rw [if_neg e2, if_neg e2]
            by_cases e3 : i < 42
            · rw [if_pos e3, if_pos e3]
            · rw [if_neg e3, if_neg e3]
              by_cases e4 : i < 82
              · rw [if_pos e4, if_pos e4]
                have : ¬ i - 42 = s := by omega
                simp [this]
              · rw [if_neg e4, if_neg e4])] at h9
    exact h9
  · show (if i = s then l else p.S i) ≤ _
    split
    · exact hl
    · exact h.ok.S i hi
theorem DpAt.setB (h : DpAt w b p) (k : Nat) (c : Int) (hk : k < 448) (hc : 0 ≤ c ∧ c ≤ 255) : DpAt (w.setCell ⟨b, 82 + k, none⟩ (.int .u8 c)) b (p.setB k c) := by
  refine ⟨?_, ⟨h.ok.L, h.ok.N, h.ok.O, h.ok.S, fun i => ?_⟩⟩
  · have h9 := h.box.set_ (82 + k) (.int .u8 c)
    rw [dpC_set p (p.setB k c) (82 + k) _ (fun i hi => by
      unfold dcell Dp.setB
      by_cases e : i = 82 + k
      · subst e
        rw [if_pos rfl, if_neg (by omega), if_neg (by omega), if_neg (by omega), if_neg (by omega)]
        simp
      · rw [if_neg e]
        by_cases e1 : i < 1
        · rw [if_pos e1, if_pos e1]
        · rw [if_neg e1, if_neg e1]
          by_cases e2 : i < 2
          · rw [if_pos e2, if_pos e2]
          · rw [if_neg e2, if_neg e2]
            by_cases e3 : i < 42
            · rw [if_pos e3, if_pos e3]
            · rw [if_neg e3, if_neg e3]
              by_cases e4 : i < 82
              · rw [if_pos e4, if_pos e4]
              · rw [if_neg e4, if_neg e4]
                have : ¬ i - 82 = k := by omega
                simp [this])] at h9
    exact h9
  · show 0 ≤ (if i = k then c else p.B i) ∧ (if i = k then c else p.B i) ≤ _
    split
    · exact hc
    · exact h.ok.B i
end
theorem rnumber (w : World) (b : Nat) (p : Dp) (h : DpAt w b p) :
    Calls Try.prog 35 #[.pointer (some ⟨b, 0, none⟩)] w fun e w' => e = .returned (.int .u32 p.N) ∧ w = w' := by
  have k := h.n
  clear h
  go_enter Try.func35, Try.ntmps35
  go_wp2
  go_ret
  exact ⟨rfl, rfl⟩
theorem rlsn (w : World) (b : Nat) (p : Dp) (h : DpAt w b p) :
    Calls Try.prog 36 #[.pointer (some ⟨b, 0, none⟩)] w fun e w' => e = .returned (.int .u64 p.L) ∧ w = w' := by
  have k := h.l
  clear h
  go_enter Try.func36, Try.ntmps36
  go_wp2
  go_ret
  exact ⟨rfl, rfl⟩
theorem rstamp (w : World) (b : Nat) (p : Dp) (h : DpAt w b p) (M : Int) (hM : 0 ≤ M ∧ M ≤ 18446744073709551615) :
    Calls Try.prog 33 #[.pointer (some ⟨b, 0, none⟩), .int .u64 M] w fun e w' => e = .returned (.tuple #[]) ∧ DpAt w' b (p.setL M) ∧ Fr (fun x => x = b) w w' := by
  have k := h.l
  have kf := h.box.frozen 0
  have P := Lib.hid (And.intro (h.setL M hM) (Fr.setCell (Fr.refl (fun x => x = b) w) (p := ⟨b, 0, none⟩) (.inl rfl) (.int .u64 M)))
  clear h
  go_enter Try.func33, Try.ntmps33
  go_wp2
  go_end0
  exact ⟨rfl, P.out⟩
def newD (n : Int) : Dp := ⟨0, n, fun _ => 0, fun _ => 0, fun _ => 0⟩
theorem newD_built (n : Int) : Try.prog.built 68 [(1, .int .u32 n)] = some (dpC (newD n)) := by kernel_rfl
theorem newD_build (n : Int) (W : World) : (Instr.build 68 #[(1, .int .u32 n)]).run Try.prog W = .ok (.agg (dpC (newD n))) W := run_build W _ _ _ (newD_built n)
theorem wpList_build_dp (w : World) {ops : Array Oper} {rest : List Oper} {o : Oper} {ac : Act} {Q : Exit → Act → World → Prop} (hgd : o.guard = none) (x : Operand) (ho : o.op = .build 68 #[(1, x)]) (n : Int) (V : Array Value) (hV : V = dpC (newD n)) (hx : ac.eval x = .int .u32 n)
    (h : wpList Try.prog ops Q rest (ac.put o.dst (.agg V)) w) : wpList Try.prog ops Q (o :: rest) ac w := by
  refine wpList_plain hgd fun K hK' => ?_
  unfold Oper.wp execOp
  have e : (#[((1 : Nat), x)].map fun (i, x) => (i, ac.eval x)) = #[(1, .int .u32 n)] := by simp [hx]
  simp only [ho, e, Sem.run_bind, newD_build n w, Result.andThen_ok]
  exact hK' _ _ (by rw [← hV]; exact h)
theorem rnew (w : World) (n : Int) (hn : 0 ≤ n ∧ n ≤ 4294967295) :
    Calls Try.prog 12 #[.int .u32 n] w fun e w' => e = .returned (.pointer (some ⟨w.heap.size, 0, none⟩)) ∧ DpAt w' w.heap.size (newD n) ∧ Below w.heap.size w w' := by
  obtain ⟨V, hV⟩ : ∃ V, V = dpC (newD n) := ⟨_, rfl⟩
  have P0 := Lib.hid (show DpAt (w.alloc (.cells V 68)) w.heap.size (newD n) from ⟨by rw [hV]; exact Box.new _ _ _, ⟨by show (0 : Int) ≤ 0 ∧ (0 : Int) ≤ _; decide, hn, fun _ _ => Nat.zero_le _, fun _ _ => Nat.zero_le _, fun _ => by show (0 : Int) ≤ 0 ∧ (0 : Int) ≤ 255; decide⟩⟩)
  have B0 := Lib.hid (new_ (Below.refl w.heap.size w) (.cells V 68))
  have HV := Lib.hid hV
  clear hV
  go_enter Try.func12, Try.ntmps12
  go_wp2_with (first
    | (refine wpList_build_dp _ rfl _ rfl n V HV.out rfl ?_)
    | fail)
  go_ret
  exact ⟨rfl, P0.out, B0.out⟩
/-- one more than the highest slot below i that has something; the lowest offset; all lengths but one; the slots -/
def trimF (S : Nat → Nat) : Nat → Nat
  | 0 => 0
  | i + 1 => if S i = 0 then trimF S i else i + 1
def lowF (O S : Nat → Nat) : Nat → Nat
  | 0 => 448
  | i + 1 => if S i = 0 then lowF O S i else min (lowF O S i) (O i)
def allF (S : Nat → Nat) (but : Int) : Nat → Nat
  | 0 => 0
  | i + 1 => allF S but i + (if (i : Int) = but then 0 else S i)
theorem trimF_le (S : Nat → Nat) : ∀ n, trimF S n ≤ n := by
  intro n
  induction n with
  | zero => exact Nat.le_refl _
  | succ n ih => unfold trimF; split; (omega); (exact Nat.le_refl _)
theorem lowF_le (O S : Nat → Nat) : ∀ n, lowF O S n ≤ 448 := by
  intro n
  induction n with
  | zero => exact Nat.le_refl _
  | succ n ih => unfold lowF; split; (exact ih); (omega)
theorem allF_le (S : Nat → Nat) (but : Int) (hS : ∀ i, i < 40 → S i ≤ 65535) : ∀ n, n ≤ 40 → allF S but n ≤ 65535 * n := by
  intro n
  induction n with
  | zero => intro _; exact Nat.le_refl _
  | succ n ih => intro h; have := ih (by omega); have := hS n (by omega); unfold allF; split <;> omega
set_option maxHeartbeats 4000000 in
theorem rcount (w : World) (b : Nat) (p : Dp) (h : DpAt w b p) :
    Calls Try.prog 53 #[.pointer (some ⟨b, 0, none⟩)] w fun e w' => e = .returned (.int .i64 (trimF p.S 40)) ∧ w = w' := by
  have HC := Lib.hid (h.s)
  have hS := Lib.hid h.ok.S
  clear h
  go_enter Try.func53, Try.ntmps53
  go_wp2
  go_loopw [3, 4] (fun n x wr => ∃ i : Nat, i ≤ 40 ∧ x = .int .i64 i ∧ n = .int .i64 (trimF p.S i) ∧ Hid (w = wr)) (fun _ x _ => 40 - (intOf x).toNat)
  case atStart => exact ⟨0, Nat.zero_le _, rfl, rfl, Lib.hid rfl⟩
  case round =>
    obtain ⟨i, hi, rfl, rfl, HW⟩ := hrel
    obtain rfl := HW.out
    by_cases hlt : i < 40
    · have kc := HC.out i hlt
      have HU := Lib.hid (show trimF p.S (i + 1) = if p.S i = 0 then trimF p.S i else i + 1 from rfl)
      obtain ⟨t, ht⟩ : ∃ t, t = trimF p.S i := ⟨_, rfl⟩
      obtain ⟨z, hz⟩ : ∃ z, z = p.S i := ⟨_, rfl⟩
      rw [← ht, ← hz] at HU
      rw [← hz] at kc
      rw [← ht]
      clear ht hz
      by_cases h0 : z = 0
      · subst h0
        have HU2 := Lib.hid (HU.out.trans (if_pos rfl))
        clear HU
        go_wp2
        go_roundw
        case rel => exact ⟨i + 1, by omega, by go_num, by rw [HU2.out], by first | exact Lib.hid trivial | exact Lib.hid rfl⟩
        case measure => simp [intOf]; omega
      · have d0 : decide ((0 : Int) < (z : Int)) = true := by simp; omega
        have d0' : decide (0 < z) = true := by simp; omega
        have HU2 := Lib.hid (HU.out.trans (if_neg h0))
        clear HU
        go_wp2
        go_roundw
        case rel => exact ⟨i + 1, by omega, by go_num, by rw [HU2.out]; rfl, by first | exact Lib.hid trivial | exact Lib.hid rfl⟩
        case measure => simp [intOf]; omega
    · obtain rfl : i = 40 := by omega
      go_wp2
      go_ret
      exact ⟨rfl, rfl⟩
set_option maxHeartbeats 4000000 in
theorem rlow (w : World) (b : Nat) (p : Dp) (h : DpAt w b p) :
    Calls Try.prog 55 #[.pointer (some ⟨b, 0, none⟩)] w fun e w' => e = .returned (.int .i64 (lowF p.O p.S 40)) ∧ w = w' := by
  have HC := Lib.hid (h.s)
  have HO := Lib.hid (h.o)
  clear h
  go_enter Try.func55, Try.ntmps55
  go_wp2
  go_loopw [3, 4] (fun n x wr => ∃ i : Nat, i ≤ 40 ∧ x = .int .i64 i ∧ n = .int .i64 (lowF p.O p.S i) ∧ Hid (w = wr)) (fun _ x _ => 40 - (intOf x).toNat)
  case atStart => exact ⟨0, Nat.zero_le _, rfl, rfl, Lib.hid rfl⟩
  case round =>
    obtain ⟨i, hi, rfl, rfl, HW⟩ := hrel
    obtain rfl := HW.out
    by_cases hlt : i < 40
    · have kc := HC.out i hlt
      have ko := HO.out i hlt
      have HU := Lib.hid (show lowF p.O p.S (i + 1) = if p.S i = 0 then lowF p.O p.S i else min (lowF p.O p.S i) (p.O i) from rfl)
      obtain ⟨t, ht⟩ : ∃ t, t = lowF p.O p.S i := ⟨_, rfl⟩
      obtain ⟨z, hz⟩ : ∃ z, z = p.S i := ⟨_, rfl⟩
      obtain ⟨o, ho⟩ : ∃ z, z = p.O i := ⟨_, rfl⟩
      rw [← ht, ← hz, ← ho] at HU
      rw [← hz] at kc
      rw [← ho] at ko
      rw [← ht]
      clear ht hz ho
      by_cases h0 : z = 0
      · subst h0
        have HU2 := Lib.hid (HU.out.trans (if_pos rfl))
        clear HU
        go_wp2
        go_roundw
        case rel => exact ⟨i + 1, by omega, by go_num, by rw [HU2.out], by first | exact Lib.hid trivial | exact Lib.hid rfl⟩
        case measure => simp [intOf]; omega
      · have d0 : decide ((0 : Int) < (z : Int)) = true := by simp; omega
        have d0' : decide (0 < z) = true := by simp; omega
        have HU2 := Lib.hid (HU.out.trans (if_neg h0))
        clear HU
        by_cases hm : o < t
        · have hm' : (o : Int) < (t : Int) := by omega
          have HU3 := Lib.hid (show lowF p.O p.S (i + 1) = o by rw [HU2.out]; omega)
          clear HU2
          go_wp2
          go_roundw
          case rel => exact ⟨i + 1, by omega, by go_num, by rw [HU3.out], by first | exact Lib.hid trivial | exact Lib.hid rfl⟩
          case measure => simp [intOf]; omega
        · have hm' : ¬ (o : Int) < (t : Int) := by omega
          have HU3 := Lib.hid (show lowF p.O p.S (i + 1) = t by rw [HU2.out]; omega)
          clear HU2
          go_wp2
          go_roundw
          case rel => exact ⟨i + 1, by omega, by go_num, by rw [HU3.out], by first | exact Lib.hid trivial | exact Lib.hid rfl⟩
          case measure => simp [intOf]; omega
    · obtain rfl : i = 40 := by omega
      go_wp2
      go_ret
      exact ⟨rfl, rfl⟩
set_option maxHeartbeats 4000000 in
theorem rall (w : World) (b : Nat) (p : Dp) (h : DpAt w b p) (N : Int) :
    Calls Try.prog 54 #[.pointer (some ⟨b, 0, none⟩), .int .i64 N] w fun e w' => e = .returned (.int .i64 (allF p.S N 40)) ∧ w = w' := by
  have HC := Lib.hid (h.s)
  have HA := Lib.hid (allF_le p.S N h.ok.S)
  have HS := Lib.hid h.ok.S
  clear h
  go_enter Try.func54, Try.ntmps54
  go_wp2
  go_loopw [5, 6] (fun n x wr => ∃ i : Nat, i ≤ 40 ∧ x = .int .i64 i ∧ n = .int .i64 (allF p.S N i) ∧ Hid (w = wr)) (fun _ x _ => 40 - (intOf x).toNat)
  case atStart => exact ⟨0, Nat.zero_le _, rfl, rfl, Lib.hid rfl⟩
  case round =>
    obtain ⟨i, hi, rfl, rfl, HW⟩ := hrel
    obtain rfl := HW.out
    by_cases hlt : i < 40
    · have kc := HC.out i hlt
      have hz8 := HS.out i hlt
      have ha8 := HA.out i hi
      have HU := Lib.hid (show allF p.S N (i + 1) = allF p.S N i + (if (i : Int) = N then 0 else p.S i) from rfl)
      obtain ⟨t, ht⟩ : ∃ t, t = allF p.S N i := ⟨_, rfl⟩
      obtain ⟨z, hz⟩ : ∃ z, z = p.S i := ⟨_, rfl⟩
      rw [← ht, ← hz] at HU
      rw [← hz] at kc hz8
      rw [← ht] at ha8 ⊢
      have w1 : wrap64 ((t : Int) + (z : Int)) = (t : Int) + (z : Int) := wrap64_in _ (by omega)
      have HW1 := Lib.hid w1
      clear ht hz hz8 ha8
      by_cases h0 : (i : Int) = N
      · have d0 : ((i : Int) != N) = false := by rw [h0]; simp
        have HU2 := Lib.hid (show allF p.S N (i + 1) = t by rw [HU.out, if_pos h0, Nat.add_zero])
        clear HU h0
        go_wp2
        go_roundw
        case rel => exact ⟨i + 1, by omega, by go_num, by rw [HU2.out], by first | exact Lib.hid trivial | exact Lib.hid rfl⟩
        case measure => simp [intOf]; omega
      · have d0 : ((i : Int) != N) = true := by rw [bne_iff_ne]; exact h0
        have HU2 := Lib.hid (show ((allF p.S N (i + 1) : Nat) : Int) = (t : Int) + (z : Int) by rw [HU.out, if_neg h0]; omega)
        clear HU h0
        go_wp2
        go_roundw
        case rel => exact ⟨i + 1, by omega, by go_num, by rw [HU2.out]; first | rfl | rw [HW1.out], by first | exact Lib.hid trivial | exact Lib.hid rfl⟩
        case measure => simp [intOf]; omega
    · obtain rfl : i = 40 := by omega
      go_wp2
      go_ret
      exact ⟨rfl, rfl⟩
theorem rfree (w : World) (b : Nat) (p : Dp) (h : DpAt w b p) :
    Calls Try.prog 37 #[.pointer (some ⟨b, 0, none⟩)] w fun e w' => e = .returned (.int .i64 (432 - 4 * (trimF p.S 40 : Int) - (allF p.S (-1) 40 : Int))) ∧ w = w' := by
  have CA := Lib.hid (rcount w b p h)
  have AA := Lib.hid (rall w b p h (-1))
  have h1 := trimF_le p.S 40
  have h2 := allF_le p.S (-1) h.ok.S 40 (Nat.le_refl _)
  obtain ⟨t, ht⟩ : ∃ t, t = trimF p.S 40 := ⟨_, rfl⟩
  obtain ⟨a, ha⟩ : ∃ t, t = allF p.S (-1) 40 := ⟨_, rfl⟩
  rw [← ht] at CA h1 ⊢
  rw [← ha] at AA h2 ⊢
  have w1 : wrap64 (4 * (t : Int)) = 4 * (t : Int) := wrap64_in _ (by omega)
  have w2 : wrap64 (432 - 4 * (t : Int)) = 432 - 4 * (t : Int) := wrap64_in _ (by omega)
  have w3 : wrap64 (432 - 4 * (t : Int) - (a : Int)) = 432 - 4 * (t : Int) - (a : Int) := wrap64_in _ (by omega)
  have HW3 := Lib.hid w3
  clear h ht ha h1 h2 w3
  go_enter Try.func37, Try.ntmps37
  go_wp2_with fail
  (with_reducible refine CA.out.mono ?_)
  rintro e wx ⟨rfl, rfl⟩
  go_wp2_with fail
  (with_reducible refine AA.out.mono ?_)
  rintro e wx ⟨rfl, rfl⟩
  go_wp2
  go_ret
  exact ⟨by show Ending.returned (.int .i64 (wrap64 (432 - 4 * (t : Int) - (a : Int)))) = _; rw [HW3.out], rfl⟩
end Go.Proofs.Ythbbnebanmpcjaa.Pg

/- The document's page: Get, Slots. -/
namespace Go.Proofs.Ythbbnebanmpcjaa.Pg
open Go.ChangeShapes Go.WideShapes Go.ChangeAt Go.RowKit Go.IntWalk Go.Proofs.Mem Go.Proofs.Each
set_option linter.unusedVariables false
set_option linter.unusedSimpArgs false
/-- a piece of the bytes -/
def bseg (B : Nat → Int) (o n : Nat) : List Int := (List.range n).map (fun k => B (o + k))
theorem bseg_len (B : Nat → Int) (o n : Nat) : (bseg B o n).length = n := by unfold bseg; simp
theorem bseg_getD (B : Nat → Int) (o n i : Nat) (hi : i < n) : (bseg B o n).getD i 0 = B (o + i) := by
  unfold bseg
  rw [List.getD_eq_getElem?_getD, List.getElem?_map, List.getElem?_range hi]; rfl
theorem bseg_bytes {p : Dp} (h : p.Ok) (o n : Nat) : Bytes (bseg p.B o n) := by
  intro x hx
  unfold bseg at hx
  obtain ⟨k, _, rfl⟩ := List.mem_map.1 hx
  exact h.B _
theorem DpAt.ir {w : World} {b : Nat} {p : Dp} (h : DpAt w b p) (o l c : Nat) (hl : o + l ≤ 448) (hc : l ≤ c) (hc8 : c ≤ 448) : IR w w.heap.size .u8 (.slice (some ⟨b, 82 + o, none⟩) l c) (bseg p.B o l) := by
  refine ⟨_, _, by rw [bseg_len], by rw [bseg_len]; exact hc, by unfold maxLen; omega, (fun e => by cases e), fun i hi => ⟨b, 82 + o, rfl, h.box.lt, ?_⟩⟩
  rw [bseg_len] at hi
  rw [Nat.add_assoc, h.bb (o + i) (by omega), bseg_getD _ _ _ _ hi]
theorem stays_own (base : Nat) (e : TypeId) (size n : Nat) (xs : List Value) : Stays (fun v W => W.ownsRow base e size v n xs) := fun _ _ _ hb h => own_below h hb
theorem rget_no (w : World) (b : Nat) (p : Dp) (h : DpAt w b p) (N : Int) (hN : N < 0 ∨ 39 < N ∨ ∃ s : Nat, N = s ∧ s < 40 ∧ p.S s = 0) :
    Calls Try.prog 32 #[.pointer (some ⟨b, 0, none⟩), .int .i64 N] w fun e w' => e = .returned (.tuple #[.slice none 0 0, .bool false]) ∧ w = w' := by
  by_cases h0 : N < 0
  · have d0 : decide (N < 0) = true := decide_eq_true h0
    clear h hN
    go_enter Try.func32, Try.ntmps32
    go_wp2
    go_ret2
    exact ⟨rfl, rfl⟩
  · have d0 : decide (N < 0) = false := decide_eq_false h0
    by_cases h1 : 39 < N
    · have d1 : decide (39 < N) = true := decide_eq_true h1
      clear h hN
      go_enter Try.func32, Try.ntmps32
      go_wp2
      go_ret2
      exact ⟨rfl, rfl⟩
    · obtain ⟨s, rfl, hs, hz⟩ : ∃ s : Nat, N = s ∧ s < 40 ∧ p.S s = 0 := by
        rcases hN with h | h | h
        · exact absurd h h0
        · exact absurd h h1
        · exact h
      have d1 : decide ((39 : Int) < (s : Int)) = false := by simp; omega
      have kc := h.s s hs
      rw [hz] at kc
      clear h hN hz h1
      go_enter Try.func32, Try.ntmps32
      go_wp2
      go_ret2
      exact ⟨rfl, rfl⟩
set_option maxRecDepth 100000 in
set_option maxHeartbeats 8000000 in
theorem rget_yes (w : World) (b : Nat) (p : Dp) (h : DpAt w b p) (s : Nat) (hs : s < 40) (h0 : p.S s ≠ 0) (hw : p.O s + p.S s ≤ 448) :
    Calls Try.prog 32 #[.pointer (some ⟨b, 0, none⟩), .int .i64 (s : Int)] w fun e w' => ∃ u, e = .returned (.tuple #[u, .bool true]) ∧ w'.ownsRow w.heap.size 5 1 u (p.S s) ((bseg p.B (p.O s) (p.S s)).map (.int .u8)) ∧ Below w.heap.size w w' := by
  obtain ⟨i0, hi0, hz0, hz1, hz2⟩ := info_parts NumBytes.u8_info
  have KS := Lib.hid (h.s s hs)
  have KO := Lib.hid (h.o s hs)
  have kc := h.s s hs
  obtain ⟨o, ho⟩ : ∃ o, o = p.O s := ⟨_, rfl⟩
  obtain ⟨l, hl⟩ : ∃ l, l = p.S s := ⟨_, rfl⟩
  rw [← ho] at KO hw ⊢
  rw [← hl] at KS hw h0 kc ⊢
  have HBL := Lib.hid h.box.lt
  have HIR := Lib.hid (fun W (hb : Below w.heap.size w W) => (h.later hb).ir o l (448 - o) hw (by omega) (by omega))
  have HL4 := Lib.hid (show l ≤ 448 by omega)
  have HS40 := Lib.hid hs
  obtain ⟨T, hT⟩ : ∃ T : Int, T = (o : Int) + (l : Int) := ⟨_, rfl⟩
  have HWT := Lib.hid (show IntKind.i64.wrap ((o : Int) + (l : Int)) = T by rw [hT]; exact IntWalk.i64_in _ (by omega))
  have HCS := Lib.hid (show (0 : Int) ≤ o ∧ (o : Int) ≤ T ∧ T ≤ 448 ∧ T.toNat - o = l ∧ ¬ 448 = o ∧ ¬ 448 - o = 0 ∧ o < 448 ∧ ¬ 448 ≤ o by omega)
  have d0 : decide ((s : Int) < 0) = false := by simp
  have d1 : decide ((39 : Int) < (s : Int)) = false := by simp; omega
  have d2 : ((l : Int) == 0) = false := by rw [beq_eq_false_iff_ne]; omega
  clear h ho hl hT hw h0
  go_enter Try.func32, Try.ntmps32
  go_upto_region 4 with fail
  clear kc d0 d1 d2
  refine wp_region_ob (by kernel_rfl) (by kernel_rfl) [(fun v _ => v = Value.slice none 0 0), (fun v _ => v = Value.pointer (some ⟨b, 0, none⟩)), (fun v _ => v = Value.pointer (some ⟨b, 0, none⟩)), (fun v _ => v = Value.pointer (some ⟨b, 82, none⟩)), (fun v _ => v = Value.pointer (some ⟨b, 0, none⟩)), (fun v _ => v = Value.int .i64 s), (fun v _ => v = Value.pointer (some ⟨b, 0, none⟩)), (fun v _ => v = Value.pointer (some ⟨b, 2, none⟩)), (fun v _ => v = Value.pointer (some ⟨b, 2 + s, none⟩)), (fun v _ => v = Value.int .i64 o), (fun v _ => v = Value.pointer (some ⟨b, 0, none⟩)), (fun v _ => v = Value.int .i64 s), (fun v _ => v = Value.pointer (some ⟨b, 0, none⟩)), (fun v _ => v = Value.pointer (some ⟨b, 2, none⟩)), (fun v _ => v = Value.pointer (some ⟨b, 2 + s, none⟩)), (fun v _ => v = Value.int .i64 o), (fun v _ => v = Value.pointer (some ⟨b, 0, none⟩)), (fun v _ => v = Value.int .i64 s), (fun v _ => v = Value.pointer (some ⟨b, 0, none⟩)), (fun v _ => v = Value.pointer (some ⟨b, 42, none⟩)), (fun v _ => v = Value.pointer (some ⟨b, 42 + s, none⟩)), (fun v _ => v = Value.int .i64 l), (fun v _ => v = Value.int .i64 T), (fun v _ => v = Value.slice (some ⟨b, 82 + o, none⟩) l (448 - o)), (fun v W => W.ownsRow w.heap.size 5 1 v l ((bseg p.B o l).map (.int .u8))), (fun v W => W.ownsRow w.heap.size 5 1 v l ((bseg p.B o l).map (.int .u8))), (fun v _ => v = Value.bool true)] ⟨stays_eq _, stays_eq _, stays_eq _, stays_eq _, stays_eq _, stays_eq _, stays_eq _, stays_eq _, stays_eq _, stays_eq _, stays_eq _, stays_eq _, stays_eq _, stays_eq _, stays_eq _, stays_eq _, stays_eq _, stays_eq _, stays_eq _, stays_eq _, stays_eq _, stays_eq _, stays_eq _, stays_eq _, stays_own _ _ _ _ _, stays_own _ _ _ _ _, stays_eq _, trivial⟩ (fun vals => ?_) (fun vals W hbW hall => ?_)
  · simp only [ObF, Act.put, List.setIfInBounds_toArray, List.set_cons_succ, List.set_cons_zero]
    refine ⟨?_, ?_, ?_, ?_, ?_, ?_, ?_, ?_, ?_, ?_, ?_, ?_, ?_, ?_, ?_, ?_, ?_, ?_, ?_, ?_, ?_, ?_, ?_, ?_, ?_, ?_, ?_, trivial⟩
    · intro W hbW hw
      clear hw
      refine step_plain rfl ?_
      go_simp
      (first | exact Below.refl _ _ | exact ⟨Below.refl _ _, rfl⟩ | exact ⟨_, rfl, Below.refl _ _, rfl⟩)
    · intro W hbW hw
      clear hw
      refine step_plain rfl ?_
      go_simp
      (first | exact Below.refl _ _ | exact ⟨Below.refl _ _, rfl⟩ | exact ⟨_, rfl, Below.refl _ _, rfl⟩)
    · intro W hbW hw
      have f1 : vals 1 = Value.pointer (some ⟨b, 0, none⟩) := hw ⟨1, .data⟩ (by simp) rfl
      clear hw
      refine step_plain rfl ?_
      go_simp
      (first | exact Below.refl _ _ | exact ⟨Below.refl _ _, rfl⟩ | exact ⟨_, rfl, Below.refl _ _, rfl⟩)
    · intro W hbW hw
      have f2 : vals 2 = Value.pointer (some ⟨b, 0, none⟩) := hw ⟨2, .data⟩ (by simp) rfl
      clear hw
      refine step_plain rfl ?_
      go_simp
      (first | exact Below.refl _ _ | exact ⟨Below.refl _ _, rfl⟩ | exact ⟨_, rfl, Below.refl _ _, rfl⟩)
    · intro W hbW hw
      clear hw
      refine step_plain rfl ?_
      go_simp
      (first | exact Below.refl _ _ | exact ⟨Below.refl _ _, rfl⟩ | exact ⟨_, rfl, Below.refl _ _, rfl⟩)
    · intro W hbW hw
      clear hw
      refine step_plain rfl ?_
      go_simp
      (first | exact Below.refl _ _ | exact ⟨Below.refl _ _, rfl⟩ | exact ⟨_, rfl, Below.refl _ _, rfl⟩)
    · intro W hbW hw
      have f4 : vals 4 = Value.pointer (some ⟨b, 0, none⟩) := hw ⟨4, .data⟩ (by simp) rfl
      clear hw
      refine step_plain rfl ?_
      go_simp
      (first | exact Below.refl _ _ | exact ⟨Below.refl _ _, rfl⟩ | exact ⟨_, rfl, Below.refl _ _, rfl⟩)
    · intro W hbW hw
      have f6 : vals 6 = Value.pointer (some ⟨b, 0, none⟩) := hw ⟨6, .data⟩ (by simp) rfl
      clear hw
      refine step_plain rfl ?_
      go_simp
      (first | exact Below.refl _ _ | exact ⟨Below.refl _ _, rfl⟩ | exact ⟨_, rfl, Below.refl _ _, rfl⟩)
    · intro W hbW hw
      have f7 : vals 7 = Value.pointer (some ⟨b, 2, none⟩) := hw ⟨7, .data⟩ (by simp) rfl
      have f5 : vals 5 = Value.int .i64 s := hw ⟨5, .data⟩ (by simp) rfl
      clear hw
      refine step_plain rfl ?_
      have s1 : (s : Int) < 40 := by have := HS40.out; omega
      go_simp
      (first | exact Below.refl _ _ | exact ⟨Below.refl _ _, rfl⟩ | exact ⟨_, rfl, Below.refl _ _, rfl⟩)
    · intro W hbW hw
      have f8 : vals 8 = Value.pointer (some ⟨b, 2 + s, none⟩) := hw ⟨8, .data⟩ (by simp) rfl
      clear hw
      refine step_plain rfl ?_
      have kc : W.cell? ⟨b, 2 + s, none⟩ = some (.int .i64 o) := (hbW.cell HBL.out).trans KO.out
      go_simp
      (first | exact Below.refl _ _ | exact ⟨Below.refl _ _, rfl⟩ | exact ⟨_, rfl, Below.refl _ _, rfl⟩)
    · intro W hbW hw
      clear hw
      refine step_plain rfl ?_
      go_simp
      (first | exact Below.refl _ _ | exact ⟨Below.refl _ _, rfl⟩ | exact ⟨_, rfl, Below.refl _ _, rfl⟩)
    · intro W hbW hw
      clear hw
      refine step_plain rfl ?_
      go_simp
      (first | exact Below.refl _ _ | exact ⟨Below.refl _ _, rfl⟩ | exact ⟨_, rfl, Below.refl _ _, rfl⟩)
    · intro W hbW hw
      have f10 : vals 10 = Value.pointer (some ⟨b, 0, none⟩) := hw ⟨10, .data⟩ (by simp) rfl
      clear hw
      refine step_plain rfl ?_
      go_simp
      (first | exact Below.refl _ _ | exact ⟨Below.refl _ _, rfl⟩ | exact ⟨_, rfl, Below.refl _ _, rfl⟩)
    · intro W hbW hw
      have f12 : vals 12 = Value.pointer (some ⟨b, 0, none⟩) := hw ⟨12, .data⟩ (by simp) rfl
      clear hw
      refine step_plain rfl ?_
      go_simp
      (first | exact Below.refl _ _ | exact ⟨Below.refl _ _, rfl⟩ | exact ⟨_, rfl, Below.refl _ _, rfl⟩)
    · intro W hbW hw
      have f13 : vals 13 = Value.pointer (some ⟨b, 2, none⟩) := hw ⟨13, .data⟩ (by simp) rfl
      have f11 : vals 11 = Value.int .i64 s := hw ⟨11, .data⟩ (by simp) rfl
      clear hw
      refine step_plain rfl ?_
      have s1 : (s : Int) < 40 := by have := HS40.out; omega
      go_simp
      (first | exact Below.refl _ _ | exact ⟨Below.refl _ _, rfl⟩ | exact ⟨_, rfl, Below.refl _ _, rfl⟩)
    · intro W hbW hw
      have f14 : vals 14 = Value.pointer (some ⟨b, 2 + s, none⟩) := hw ⟨14, .data⟩ (by simp) rfl
      clear hw
      refine step_plain rfl ?_
      have kc : W.cell? ⟨b, 2 + s, none⟩ = some (.int .i64 o) := (hbW.cell HBL.out).trans KO.out
      go_simp
      (first | exact Below.refl _ _ | exact ⟨Below.refl _ _, rfl⟩ | exact ⟨_, rfl, Below.refl _ _, rfl⟩)
    · intro W hbW hw
      clear hw
      refine step_plain rfl ?_
      go_simp
      (first | exact Below.refl _ _ | exact ⟨Below.refl _ _, rfl⟩ | exact ⟨_, rfl, Below.refl _ _, rfl⟩)
    · intro W hbW hw
      clear hw
      refine step_plain rfl ?_
      go_simp
      (first | exact Below.refl _ _ | exact ⟨Below.refl _ _, rfl⟩ | exact ⟨_, rfl, Below.refl _ _, rfl⟩)
    · intro W hbW hw
      have f16 : vals 16 = Value.pointer (some ⟨b, 0, none⟩) := hw ⟨16, .data⟩ (by simp) rfl
      clear hw
      refine step_plain rfl ?_
      go_simp
      (first | exact Below.refl _ _ | exact ⟨Below.refl _ _, rfl⟩ | exact ⟨_, rfl, Below.refl _ _, rfl⟩)
    · intro W hbW hw
      have f18 : vals 18 = Value.pointer (some ⟨b, 0, none⟩) := hw ⟨18, .data⟩ (by simp) rfl
      clear hw
      refine step_plain rfl ?_
      go_simp
      (first | exact Below.refl _ _ | exact ⟨Below.refl _ _, rfl⟩ | exact ⟨_, rfl, Below.refl _ _, rfl⟩)
    · intro W hbW hw
      have f19 : vals 19 = Value.pointer (some ⟨b, 42, none⟩) := hw ⟨19, .data⟩ (by simp) rfl
      have f17 : vals 17 = Value.int .i64 s := hw ⟨17, .data⟩ (by simp) rfl
      clear hw
      refine step_plain rfl ?_
      have s1 : (s : Int) < 40 := by have := HS40.out; omega
      go_simp
      (first | exact Below.refl _ _ | exact ⟨Below.refl _ _, rfl⟩ | exact ⟨_, rfl, Below.refl _ _, rfl⟩)
    · intro W hbW hw
      have f20 : vals 20 = Value.pointer (some ⟨b, 42 + s, none⟩) := hw ⟨20, .data⟩ (by simp) rfl
      clear hw
      refine step_plain rfl ?_
      have kc : W.cell? ⟨b, 42 + s, none⟩ = some (.int .i64 l) := (hbW.cell HBL.out).trans KS.out
      go_simp
      (first | exact Below.refl _ _ | exact ⟨Below.refl _ _, rfl⟩ | exact ⟨_, rfl, Below.refl _ _, rfl⟩)
    · intro W hbW hw
      have f15 : vals 15 = Value.int .i64 o := hw ⟨15, .data⟩ (by simp) rfl
      have f21 : vals 21 = Value.int .i64 l := hw ⟨21, .data⟩ (by simp) rfl
      clear hw
      refine step_plain rfl ?_
      go_simp
      exact ⟨HWT.out, Below.refl _ _⟩
    · intro W hbW hw
      have f3 : vals 3 = Value.pointer (some ⟨b, 82, none⟩) := hw ⟨3, .data⟩ (by simp) rfl
      have f9 : vals 9 = Value.int .i64 o := hw ⟨9, .data⟩ (by simp) rfl
      have f22 : vals 22 = Value.int .i64 T := hw ⟨22, .data⟩ (by simp) rfl
      clear hw
      refine step_plain rfl ?_
      obtain ⟨c1, c2, c3, e1, c4, c5, c6, c7⟩ := HCS.out
      go_simp
      (first | exact Below.refl _ _ | exact ⟨Below.refl _ _, rfl⟩ | exact ⟨_, rfl, Below.refl _ _, rfl⟩)
    · intro W hbW hw
      have f0 : vals 0 = Value.slice none 0 0 := hw ⟨0, .data⟩ (by simp) rfl
      have f23 : vals 23 = Value.slice (some ⟨b, 82 + o, none⟩) l (448 - o) := hw ⟨23, .data⟩ (by simp) rfl
      clear hw
      refine step_plain rfl ?_
      have hsz := hbW.size
      refine wp_append_tx W _ _ 31 31 rfl w.heap.size 5 5 i0 .u8 1 Try.underlying31 Try.underlying31 hi0 hz0 hz1 hz2 (.slice none 0 0) 0 [] f0 (World.ownsRow_nil _ _ _ _) _ (.slice (some ⟨b, 82 + o, none⟩) l (448 - o)) (bseg p.B o l) f23 (HIR.out W hbW) (by rw [bseg_len]; simp only [maxLen]; have := HL4.out; omega) (by rw [bseg_len]; have := HL4.out; omega) hsz ?_
      intro v9 w9 ho9 hg9 _
      have hb9 : Below W.heap.size W w9 := grown_below (by simpa [Value.ownBlock] using hg9)
      have ho9 : w9.ownsRow w.heap.size 5 1 v9 l ((bseg p.B o l).map (.int .u8)) := by rw [bseg_len] at ho9; simpa using ho9
      (first | exact ⟨hb9, ho9⟩ | exact ⟨_, rfl, hb9, ho9⟩)
    · intro W hbW hw
      have f24 : W.ownsRow w.heap.size 5 1 (vals 24) l ((bseg p.B o l).map (.int .u8)) := hw ⟨24, .data⟩ (by simp) rfl
      have f0 : vals 0 = Value.slice none 0 0 := hw ⟨0, .phase⟩ (by simp) rfl
      have f1 : vals 1 = Value.pointer (some ⟨b, 0, none⟩) := hw ⟨1, .phase⟩ (by simp) rfl
      have f2 : vals 2 = Value.pointer (some ⟨b, 0, none⟩) := hw ⟨2, .phase⟩ (by simp) rfl
      have f3 : vals 3 = Value.pointer (some ⟨b, 82, none⟩) := hw ⟨3, .phase⟩ (by simp) rfl
      have f4 : vals 4 = Value.pointer (some ⟨b, 0, none⟩) := hw ⟨4, .phase⟩ (by simp) rfl
      have f5 : vals 5 = Value.int .i64 s := hw ⟨5, .phase⟩ (by simp) rfl
      have f6 : vals 6 = Value.pointer (some ⟨b, 0, none⟩) := hw ⟨6, .phase⟩ (by simp) rfl
      have f7 : vals 7 = Value.pointer (some ⟨b, 2, none⟩) := hw ⟨7, .phase⟩ (by simp) rfl
      have f8 : vals 8 = Value.pointer (some ⟨b, 2 + s, none⟩) := hw ⟨8, .phase⟩ (by simp) rfl
      have f9 : vals 9 = Value.int .i64 o := hw ⟨9, .phase⟩ (by simp) rfl
      have f10 : vals 10 = Value.pointer (some ⟨b, 0, none⟩) := hw ⟨10, .phase⟩ (by simp) rfl
      have f11 : vals 11 = Value.int .i64 s := hw ⟨11, .phase⟩ (by simp) rfl
      have f12 : vals 12 = Value.pointer (some ⟨b, 0, none⟩) := hw ⟨12, .phase⟩ (by simp) rfl
      have f13 : vals 13 = Value.pointer (some ⟨b, 2, none⟩) := hw ⟨13, .phase⟩ (by simp) rfl
      have f14 : vals 14 = Value.pointer (some ⟨b, 2 + s, none⟩) := hw ⟨14, .phase⟩ (by simp) rfl
      have f15 : vals 15 = Value.int .i64 o := hw ⟨15, .phase⟩ (by simp) rfl
      have f16 : vals 16 = Value.pointer (some ⟨b, 0, none⟩) := hw ⟨16, .phase⟩ (by simp) rfl
      have f17 : vals 17 = Value.int .i64 s := hw ⟨17, .phase⟩ (by simp) rfl
      have f18 : vals 18 = Value.pointer (some ⟨b, 0, none⟩) := hw ⟨18, .phase⟩ (by simp) rfl
      have f19 : vals 19 = Value.pointer (some ⟨b, 42, none⟩) := hw ⟨19, .phase⟩ (by simp) rfl
      have f20 : vals 20 = Value.pointer (some ⟨b, 42 + s, none⟩) := hw ⟨20, .phase⟩ (by simp) rfl
      have f21 : vals 21 = Value.int .i64 l := hw ⟨21, .phase⟩ (by simp) rfl
      have f22 : vals 22 = Value.int .i64 T := hw ⟨22, .phase⟩ (by simp) rfl
      have f23 : vals 23 = Value.slice (some ⟨b, 82 + o, none⟩) l (448 - o) := hw ⟨23, .phase⟩ (by simp) rfl
      clear hw
      refine step_plain rfl ?_
      go_simp
      exact Below.refl _ _
    · intro W hbW hw
      have f25 : W.ownsRow w.heap.size 5 1 (vals 25) l ((bseg p.B o l).map (.int .u8)) := hw ⟨25, .chain⟩ (by simp) rfl
      have f0 : vals 0 = Value.slice none 0 0 := hw ⟨0, .phase⟩ (by simp) rfl
      have f1 : vals 1 = Value.pointer (some ⟨b, 0, none⟩) := hw ⟨1, .phase⟩ (by simp) rfl
      have f2 : vals 2 = Value.pointer (some ⟨b, 0, none⟩) := hw ⟨2, .phase⟩ (by simp) rfl
      have f3 : vals 3 = Value.pointer (some ⟨b, 82, none⟩) := hw ⟨3, .phase⟩ (by simp) rfl
      have f4 : vals 4 = Value.pointer (some ⟨b, 0, none⟩) := hw ⟨4, .phase⟩ (by simp) rfl
      have f5 : vals 5 = Value.int .i64 s := hw ⟨5, .phase⟩ (by simp) rfl
      have f6 : vals 6 = Value.pointer (some ⟨b, 0, none⟩) := hw ⟨6, .phase⟩ (by simp) rfl
      have f7 : vals 7 = Value.pointer (some ⟨b, 2, none⟩) := hw ⟨7, .phase⟩ (by simp) rfl
      have f8 : vals 8 = Value.pointer (some ⟨b, 2 + s, none⟩) := hw ⟨8, .phase⟩ (by simp) rfl
      have f9 : vals 9 = Value.int .i64 o := hw ⟨9, .phase⟩ (by simp) rfl
      have f10 : vals 10 = Value.pointer (some ⟨b, 0, none⟩) := hw ⟨10, .phase⟩ (by simp) rfl
      have f11 : vals 11 = Value.int .i64 s := hw ⟨11, .phase⟩ (by simp) rfl
      have f12 : vals 12 = Value.pointer (some ⟨b, 0, none⟩) := hw ⟨12, .phase⟩ (by simp) rfl
      have f13 : vals 13 = Value.pointer (some ⟨b, 2, none⟩) := hw ⟨13, .phase⟩ (by simp) rfl
      have f14 : vals 14 = Value.pointer (some ⟨b, 2 + s, none⟩) := hw ⟨14, .phase⟩ (by simp) rfl
      have f15 : vals 15 = Value.int .i64 o := hw ⟨15, .phase⟩ (by simp) rfl
      have f16 : vals 16 = Value.pointer (some ⟨b, 0, none⟩) := hw ⟨16, .phase⟩ (by simp) rfl
      have f17 : vals 17 = Value.int .i64 s := hw ⟨17, .phase⟩ (by simp) rfl
      have f18 : vals 18 = Value.pointer (some ⟨b, 0, none⟩) := hw ⟨18, .phase⟩ (by simp) rfl
      have f19 : vals 19 = Value.pointer (some ⟨b, 42, none⟩) := hw ⟨19, .phase⟩ (by simp) rfl
      have f20 : vals 20 = Value.pointer (some ⟨b, 42 + s, none⟩) := hw ⟨20, .phase⟩ (by simp) rfl
      have f21 : vals 21 = Value.int .i64 l := hw ⟨21, .phase⟩ (by simp) rfl
      have f22 : vals 22 = Value.int .i64 T := hw ⟨22, .phase⟩ (by simp) rfl
      have f23 : vals 23 = Value.slice (some ⟨b, 82 + o, none⟩) l (448 - o) := hw ⟨23, .phase⟩ (by simp) rfl
      have f24 : W.ownsRow w.heap.size 5 1 (vals 24) l ((bseg p.B o l).map (.int .u8)) := hw ⟨24, .phase⟩ (by simp) rfl
      clear hw
      refine step_plain rfl ?_
      go_simp
      (first | exact Below.refl _ _ | exact ⟨Below.refl _ _, rfl⟩ | exact ⟨_, rfl, Below.refl _ _, rfl⟩)
  · simp only [TL, Act.put, List.setIfInBounds_toArray, List.set_cons_succ, List.set_cons_zero]
    have f0 : vals 0 = Value.slice none 0 0 := hall 0 (by decide)
    have f1 : vals 1 = Value.pointer (some ⟨b, 0, none⟩) := hall 1 (by decide)
    have f2 : vals 2 = Value.pointer (some ⟨b, 0, none⟩) := hall 2 (by decide)
    have f3 : vals 3 = Value.pointer (some ⟨b, 82, none⟩) := hall 3 (by decide)
    have f4 : vals 4 = Value.pointer (some ⟨b, 0, none⟩) := hall 4 (by decide)
    have f5 : vals 5 = Value.int .i64 s := hall 5 (by decide)
    have f6 : vals 6 = Value.pointer (some ⟨b, 0, none⟩) := hall 6 (by decide)
    have f7 : vals 7 = Value.pointer (some ⟨b, 2, none⟩) := hall 7 (by decide)
    have f8 : vals 8 = Value.pointer (some ⟨b, 2 + s, none⟩) := hall 8 (by decide)
    have f9 : vals 9 = Value.int .i64 o := hall 9 (by decide)
    have f10 : vals 10 = Value.pointer (some ⟨b, 0, none⟩) := hall 10 (by decide)
    have f11 : vals 11 = Value.int .i64 s := hall 11 (by decide)
    have f12 : vals 12 = Value.pointer (some ⟨b, 0, none⟩) := hall 12 (by decide)
    have f13 : vals 13 = Value.pointer (some ⟨b, 2, none⟩) := hall 13 (by decide)
    have f14 : vals 14 = Value.pointer (some ⟨b, 2 + s, none⟩) := hall 14 (by decide)
    have f15 : vals 15 = Value.int .i64 o := hall 15 (by decide)
    have f16 : vals 16 = Value.pointer (some ⟨b, 0, none⟩) := hall 16 (by decide)
    have f17 : vals 17 = Value.int .i64 s := hall 17 (by decide)
    have f18 : vals 18 = Value.pointer (some ⟨b, 0, none⟩) := hall 18 (by decide)
    have f19 : vals 19 = Value.pointer (some ⟨b, 42, none⟩) := hall 19 (by decide)
    have f20 : vals 20 = Value.pointer (some ⟨b, 42 + s, none⟩) := hall 20 (by decide)
    have f21 : vals 21 = Value.int .i64 l := hall 21 (by decide)
    have f22 : vals 22 = Value.int .i64 T := hall 22 (by decide)
    have f23 : vals 23 = Value.slice (some ⟨b, 82 + o, none⟩) l (448 - o) := hall 23 (by decide)
    have f24 : W.ownsRow w.heap.size 5 1 (vals 24) l ((bseg p.B o l).map (.int .u8)) := hall 24 (by decide)
    have f25 : W.ownsRow w.heap.size 5 1 (vals 25) l ((bseg p.B o l).map (.int .u8)) := hall 25 (by decide)
    have f26 : vals 26 = Value.bool true := hall 26 (by decide)
    clear hall
    simp only [f0, f1, f2, f3, f4, f5, f6, f7, f8, f9, f10, f11, f12, f13, f14, f15, f16, f17, f18, f19, f20, f21, f22, f23, f26]
    clear f0 f1 f2 f3 f4 f5 f6 f7 f8 f9 f10 f11 f12 f13 f14 f15 f16 f17 f18 f19 f20 f21 f22 f23 f26
    simp only [Nat.reduceAdd]
    generalize vals 25 = v25 at *
    have HR := Lib.hid f25
    have HB := Lib.hid hbW
    clear f24 f25 hbW
    go_wp2
    go_ret2
    exact ⟨_, rfl, HR.out, HB.out⟩
/-- the slots up to n that have something -/
def slotsF (S : Nat → Nat) (n : Nat) : List Int := ((List.range n).filter (fun s => decide (S s ≠ 0))).map (fun (s : Nat) => (s : Int))
theorem slotsF_succ (S : Nat → Nat) (n : Nat) : slotsF S (n + 1) = if S n = 0 then slotsF S n else slotsF S n ++ [(n : Int)] := by
  unfold slotsF
  rw [List.range_succ, List.filter_append]
  by_cases h : S n = 0
  · rw [if_pos h]; simp [h]
  · rw [if_neg h]; simp [h]
theorem slotsF_len (S : Nat → Nat) (n : Nat) : (slotsF S n).length ≤ n := by
  unfold slotsF
  rw [List.length_map]
  have := List.length_filter_le (fun s => decide (S s ≠ 0)) (List.range n)
  simpa using this
set_option maxRecDepth 100000 in
set_option maxHeartbeats 4000000 in
theorem rslots (w : World) (b : Nat) (p : Dp) (h : DpAt w b p) :
    Calls Try.prog 39 #[.pointer (some ⟨b, 0, none⟩)] w fun e w' => ∃ u, e = .returned u ∧ w'.ownsRow w.heap.size 3 1 u (slotsF p.S 40).length ((slotsF p.S 40).map (.int .i64)) ∧ Below w.heap.size w w' := by
  obtain ⟨ii, hi1, hy0, hy1, hy2⟩ := info_parts int_info
  have HC := Lib.hid (fun W (hb : Below w.heap.size w W) => (h.later hb).s)
  clear h
  go_enter Try.func39, Try.ntmps39
  go_wp2
  go_loopw [3, 4] (fun o x wr => ∃ s : Nat, s ≤ 40 ∧ x = .int .i64 s ∧ Hid (wr.ownsRow w.heap.size 3 1 o (slotsF p.S s).length ((slotsF p.S s).map (.int .i64))) ∧ Hid (Below w.heap.size w wr)) (fun _ x _ => 40 - (intOf x).toNat)
  case atStart => exact ⟨0, Nat.zero_le _, rfl, Lib.hid (World.ownsRow_nil _ _ _ _), Lib.hid (Below.refl _ _)⟩
  case round =>
    obtain ⟨s, hs, rfl, HO, HB⟩ := hrel
    by_cases hlt : s < 40
    · have kc := HC.out wr HB.out s hlt
      have HU := Lib.hid (slotsF_succ p.S s)
      have hln := slotsF_len p.S s
      obtain ⟨L, hL⟩ : ∃ L, L = p.S s := ⟨_, rfl⟩
      rw [← hL] at kc HU
      have HLT := Lib.hid hlt
      clear hL
      by_cases h0 : L = 0
      · subst h0
        have HU2 := HU.out
        rw [if_pos rfl] at HU2
        have HO2 := Lib.hid (show wr.ownsRow w.heap.size 3 1 _ (slotsF p.S (s + 1)).length ((slotsF p.S (s + 1)).map (.int .i64)) by rw [HU2]; exact HO.out)
        clear HU2
        go_wp2
        go_roundw
        case rel => exact ⟨s + 1, HLT.out, by go_num, HO2, HB⟩
        case measure => have := HLT.out; simp [intOf]; omega
      · have d0 : decide ((0 : Int) < (L : Int)) = true := by simp; omega
        have d0' : decide (0 < L) = true := by simp; omega
        have HU2 := HU.out
        rw [if_neg h0] at HU2
        have HU3 := Lib.hid HU2
        clear HU2
        go_wp2_with (at_builtin; refine wpList_push _ rfl _ _ _ rfl w.heap.size 3 ii .i64 8 Try.underlying50 hi1 hy0 hy1 hy2 _ (slotsF p.S s).length (slotsF p.S s) rfl (HO.out.alloc _) wr.heap.size (s : Int) rfl (cell_new _ _ _ 0) (by simp only [maxLen]; omega) (by omega) (by have := HB.out.size; simp; omega) ?_; intro v5 w5' hown5 hb5)
        have HO5 := Lib.hid (show w5'.ownsRow w.heap.size 3 1 v5 (slotsF p.S (s + 1)).length ((slotsF p.S (s + 1)).map (.int .i64)) by rw [HU3.out, List.length_append]; exact hown5)
        have HB5' := Lib.hid (show Below w.heap.size w w5' from (HB.out.trans ((new_ (Below.refl _ _) _).mono HB.out.size)).trans hb5)
        clear hown5 hb5
        go_wp2
        go_roundw
        case rel => exact ⟨s + 1, HLT.out, by go_num, HO5, HB5'⟩
        case measure => have := HLT.out; simp [intOf]; omega
    · obtain rfl : s = 40 := by omega
      go_wp2
      go_ret
      exact ⟨_, rfl, HO.out, HB.out⟩
end Go.Proofs.Ythbbnebanmpcjaa.Pg

/- The document's page: Clear, together. -/
namespace Go.Proofs.Ythbbnebanmpcjaa.Pg
open Go.ChangeShapes Go.WideShapes Go.ChangeAt Go.RowKit Go.IntWalk Go.Proofs.Mem Go.Proofs.Each
set_option linter.unusedVariables false
set_option linter.unusedSimpArgs false
theorem DpAt.drewN {w : World} {b : Nat} {p : Dp} (h : DpAt w b p) (d : Nat) : DpAt (w.drewN d) b p := ⟨h.box.drewN d, h.ok⟩
def zeroB (p : Dp) (o k : Nat) : Dp := { p with B := fun i => if o ≤ i ∧ i < k then 0 else p.B i }
theorem zeroB_start (p : Dp) (o : Nat) : zeroB p o o = p := by
  unfold zeroB
  have : (fun i => if o ≤ i ∧ i < o then 0 else p.B i) = p.B := by funext i; rw [if_neg (by omega)]
  rw [this]
theorem zeroB_step (p : Dp) {o k : Nat} (h : o ≤ k) : (zeroB p o k).setB k 0 = zeroB p o (k + 1) := by
  unfold zeroB Dp.setB
  congr 1
  funext i
  show (if i = k then 0 else if o ≤ i ∧ i < k then 0 else p.B i) = _
  by_cases e : i = k
  · rw [if_pos e, if_pos (by omega)]
  · rw [if_neg e]
    by_cases e2 : o ≤ i ∧ i < k
    · rw [if_pos e2, if_pos (by omega)]
    · rw [if_neg e2, if_neg (by omega)]
def clearD (p : Dp) (s : Nat) : Dp := ((zeroB p (p.O s) (p.O s + p.S s)).setO s 0).setS s 0
theorem rclear_no (w : World) (b : Nat) (p : Dp) (h : DpAt w b p) (N : Int) (hN : N < 0 ∨ 39 < N ∨ ∃ s : Nat, N = s ∧ s < 40 ∧ p.S s = 0) :
    Calls Try.prog 31 #[.pointer (some ⟨b, 0, none⟩), .int .i64 N] w fun e w' => e = .returned (.bool false) ∧ w = w' := by
  have GE := Lib.hid (rget_no w b p h N hN)
  clear h hN
  go_enter Try.func31, Try.ntmps31
  go_wp2_with fail
  (with_reducible refine GE.out.mono ?_)
  rintro e wx ⟨rfl, rfl⟩
  go_wp2
  go_ret
  exact ⟨rfl, rfl⟩
set_option maxRecDepth 100000 in
set_option maxHeartbeats 8000000 in
theorem rclear_yes (w : World) (b : Nat) (p : Dp) (h : DpAt w b p) (s : Nat) (hs : s < 40) (h0 : p.S s ≠ 0) (hw : p.O s + p.S s ≤ 448) :
    Calls Try.prog 31 #[.pointer (some ⟨b, 0, none⟩), .int .i64 (s : Int)] w fun e w' => e = .returned (.bool true) ∧ DpAt w' b (clearD p s) ∧ Fr (fun x => x = b) w w' := by
  have GE := Lib.hid (rget_yes w b p h s hs h0 hw)
  have HP := Lib.hid h
  have HCD := Lib.hid (show clearD p s = ((zeroB p (p.O s) (p.O s + p.S s)).setO s 0).setS s 0 from rfl)
  obtain ⟨q, hq⟩ : ∃ q, q = clearD p s := ⟨_, rfl⟩
  rw [← hq] at HCD ⊢
  obtain ⟨o, ho⟩ : ∃ o, o = p.O s := ⟨_, rfl⟩
  obtain ⟨l, hl⟩ : ∃ l, l = p.S s := ⟨_, rfl⟩
  rw [← ho, ← hl] at HCD hw
  rw [← hl] at h0
  have HO := Lib.hid (And.intro ho hl)
  obtain ⟨T, hT⟩ : ∃ T : Int, T = (o : Int) + (l : Int) := ⟨_, rfl⟩
  have wT : wrap64 ((o : Int) + (l : Int)) = T := by rw [hT]; exact wrap64_in _ (by omega)
  have HT := Lib.hid hT
  have HW8 := Lib.hid hw
  have hs4 : (s : Int) < 40 := by omega
  clear h hq ho hl hT hw h0
  go_enter Try.func31, Try.ntmps31
  go_wp2_with fail
  (with_reducible refine GE.out.mono ?_)
  rintro e w1 ⟨u, rfl, hu, hb1⟩
  obtain ⟨A1, c1, e1⟩ := own_slice' hu
  subst e1
  have P1 := Lib.hid (HP.out.later hb1)
  have F1 := Lib.hid (Fr.of_below (S := fun x => x = b) hb1)
  have ko : w1.cell? ⟨b, 2 + s, none⟩ = some (.int .i64 (o : Int)) := by rw [HO.out.1]; exact P1.out.o s hs
  clear hu hb1 GE
  go_wp2
  clear ko
  go_loopw [7] (fun kv wr => ∃ k : Nat, o ≤ k ∧ k ≤ o + l ∧ kv = .int .i64 k ∧ Hid (DpAt wr b (zeroB p o k)) ∧ Hid (Fr (fun x => x = b) w wr)) (fun kv _ => o + l - (intOf kv).toNat)
  case atStart => exact ⟨o, Nat.le_refl _, by omega, rfl, Lib.hid (by rw [zeroB_start]; exact P1.out), F1⟩
  case round =>
    obtain ⟨k, hk0, hk, rfl, HD, HF⟩ := hrel
    have kO : ∀ d : Nat, (wr.drewN d).cell? ⟨b, 2 + s, none⟩ = some (.int .i64 (o : Int)) := fun d => by rw [HO.out.1]; exact (HD.out.drewN d).o s hs
    have kS : ∀ d : Nat, (wr.drewN d).cell? ⟨b, 42 + s, none⟩ = some (.int .i64 (l : Int)) := fun d => by rw [HO.out.2]; exact (HD.out.drewN d).s s hs
    by_cases hlt : k < o + l
    · have dk : decide ((k : Int) < T) = true := by rw [HT.out]; simp; omega
      have hk4 : (k : Int) < 448 := by have := HW8.out; omega
      have hk8 : k < 448 := by omega
      have HLT := Lib.hid (And.intro hk0 hlt)
      clear hk0 hlt hk
      go_wp2
      go_quiet (fail)
      have D2 := Lib.hid (HD.out.drewN nq)
      have kb := D2.out.bb k hk8
      have kf := D2.out.box.frozen (82 + k)
      have D3 := Lib.hid (show DpAt ((wr.drewN nq).setCell ⟨b, 82 + k, none⟩ (.int .u8 0)) b (zeroB p o (k + 1)) by rw [← zeroB_step p HLT.out.1]; exact D2.out.setB k 0 hk8 (by decide))
      have F3 := Lib.hid (Fr.setCell (HF.out.drewN nq) (p := ⟨b, 82 + k, none⟩) (.inl rfl) (.int .u8 0))
      clear kO kS D2 HD HF
      go_wp2
      go_roundw
      case rel => exact ⟨k + 1, by have := HLT.out; omega, by have := HLT.out; omega, by go_num, D3, F3⟩
      case measure => have := HLT.out; simp [intOf]; omega
    · have hke : k = o + l := by omega
      have dk : decide ((k : Int) < T) = false := by rw [HT.out]; simp; omega
      have HD9 := Lib.hid (show DpAt wr b (zeroB p o (o + l)) by rw [← hke]; exact HD.out)
      clear hke hk0 hlt hk
      go_wp2
      go_quiet (fail)
      have D2 := Lib.hid (HD9.out.drewN nq)
      have kb := D2.out.o s hs
      have kf := D2.out.box.frozen (2 + s)
      obtain ⟨w8, hw8⟩ : ∃ w8, w8 = (wr.drewN nq).setCell ⟨b, 2 + s, none⟩ (.int .i64 0) := ⟨_, rfl⟩
      have D3 := Lib.hid (show DpAt w8 b ((zeroB p o (o + l)).setO s 0) by rw [hw8]; exact D2.out.setO s 0 hs (Nat.zero_le _))
      have F3 := Lib.hid (show Fr (fun x => x = b) w w8 by rw [hw8]; exact Fr.setCell (HF.out.drewN nq) (p := ⟨b, 2 + s, none⟩) (.inl rfl) (.int .i64 0))
      clear kO kS D2 HD HF HD9
      go_upto_region 9 with fail
      rw [← hw8]
      clear hw8 kb kf
      have kb := D3.out.s s hs
      have kf := D3.out.box.frozen (42 + s)
      have D4 := Lib.hid (show DpAt (w8.setCell ⟨b, 42 + s, none⟩ (.int .i64 0)) b q by rw [HCD.out]; exact D3.out.setS s 0 hs (Nat.zero_le _))
      have F4 := Lib.hid (Fr.setCell F3.out (p := ⟨b, 42 + s, none⟩) (.inl rfl) (.int .i64 0))
      clear D3 F3
      go_wp2
      go_ret
      exact ⟨rfl, D4.out, F4.out⟩
/-! together -/
structure IxAt (w : World) (b : Nat) (xs : List Int) : Prop where
  box : Box w b (pgC xs) 61
  len : xs.length = 448
  byt : Bytes xs
section
variable {w w' : World} {b : Nat} {xs : List Int}
theorem IxAt.later (h : IxAt w b xs) (hb : Below w.heap.size w w') : IxAt w' b xs := ⟨h.box.later hb, h.len, h.byt⟩
theorem IxAt.fr {S : Nat → Prop} (h : IxAt w b xs) (hf : Fr S w w') (hn : ¬ S b) : IxAt w' b xs := ⟨h.box.fr hf hn, h.len, h.byt⟩
theorem IxAt.cell (h : IxAt w b xs) (i : Nat) (hi : i < 448) : w.cell? ⟨b, i, none⟩ = some (.int .u8 (xs.getD i 0)) := by
  rw [h.box.cell, pgC_at (by rw [h.len]; exact hi)]
theorem ix_set (h : IxAt w b xs) (i : Nat) (z : Int) (hz : 0 ≤ z ∧ z ≤ 255) : IxAt (w.setCell ⟨b, i, none⟩ (.int .u8 z)) b (xs.set i z) := by
  refine ⟨?_, by rw [List.length_set]; exact h.len, fun x hx => ?_⟩
  · have h9 := h.box.set_ i (.int .u8 z)
    have e : (pgC xs).setIfInBounds i (.int .u8 z) = pgC (xs.set i z) := by unfold pgC; simp [List.map_set]
    rw [e] at h9; exact h9
  · rcases List.mem_or_eq_of_mem_set hx with hx | rfl
    · exact h.byt x hx
    · exact hz
end
/-- 448 bytes, as a list -/
def lst (f : Nat → Int) : List Int := (List.range 448).map f
theorem lst_len (f : Nat → Int) : (lst f).length = 448 := by unfold lst; simp
theorem lst_getD (f : Nat → Int) (i : Nat) (hi : i < 448) : (lst f).getD i 0 = f i := by
  unfold lst
  rw [List.getD_eq_getElem?_getD, List.getElem?_map, List.getElem?_range hi]; rfl
theorem lst_congr {f f' : Nat → Int} (h : ∀ i, i < 448 → f i = f' i) : lst f = lst f' := by
  unfold lst
  exact List.map_congr_left (fun i hi => h i (List.mem_range.1 hi))
theorem lst_set (f : Nat → Int) (j : Nat) (c : Int) (hj : j < 448) : (lst f).set j c = lst (fun i => if i = j then c else f i) := by
  apply list_getD (by rw [List.length_set, lst_len, lst_len])
  intro i hi
  rw [List.length_set, lst_len] at hi
  rw [lst_getD _ i hi, List.getD_eq_getElem?_getD, List.getElem?_set]
  by_cases e : j = i
  · subst e; rw [if_pos rfl, if_pos rfl, if_pos (by rw [lst_len]; exact hj)]; rfl
  · rw [if_neg e, if_neg (fun x => e x.symm), ← List.getD_eq_getElem?_getD, lst_getD f i hi]
theorem lst_bytes {f : Nat → Int} (h : ∀ i, 0 ≤ f i ∧ f i ≤ 255) : Bytes (lst f) := by
  intro x hx
  unfold lst at hx
  obtain ⟨k, _, rfl⟩ := List.mem_map.1 hx
  exact h k
theorem dp_store {b : Nat} : ∀ (l : List Int) (o : Nat) (w : World) (p : Dp), DpAt w b p → o + l.length ≤ 448 → Bytes l →
    DpAt (w.setCells b (82 + o) (l.map (.int .u8))) b { p with B := fun i => if o ≤ i ∧ i < o + l.length then l.getD (i - o) 0 else p.B i } ∧ Fr (fun x => x = b) w (w.setCells b (82 + o) (l.map (.int .u8)))
  | [], o, w, p, h, _, _ => by
    have e : (fun i => if o ≤ i ∧ i < o + ([] : List Int).length then ([] : List Int).getD (i - o) 0 else p.B i) = p.B := by
      funext i
      rw [if_neg (by simp)]
    rw [e]
    exact ⟨h, Fr.refl _ _⟩
  | c :: l, o, w, p, h, hl, hb => by
    simp only [List.length_cons] at hl
    have h1 := h.setB o c (by omega) (hb c List.mem_cons_self)
    obtain ⟨h2, h3⟩ := dp_store l (o + 1) _ _ h1 (by omega) (fun x hx => hb x (List.mem_cons_of_mem _ hx))
    have e : (fun i => if o + 1 ≤ i ∧ i < o + 1 + l.length then l.getD (i - (o + 1)) 0 else (p.setB o c).B i) = (fun i => if o ≤ i ∧ i < o + (c :: l).length then (c :: l).getD (i - o) 0 else p.B i) := by
      funext i
      simp only [List.length_cons]
      show (if o + 1 ≤ i ∧ i < o + 1 + l.length then l.getD (i - (o + 1)) 0 else if i = o then c else p.B i) = _
      by_cases e1 : i = o
      · subst e1
        rw [if_neg (by omega), if_pos rfl, if_pos (by omega), Nat.sub_self]; rfl
      · by_cases e2 : o + 1 ≤ i ∧ i < o + 1 + l.length
        · rw [if_pos e2, if_pos (by omega), show i - o = (i - (o + 1)) + 1 by omega]; rfl
        · rw [if_neg e2, if_neg e1, if_neg (by omega)]
    have e' : ({ p.setB o c with B := fun i => if o + 1 ≤ i ∧ i < o + 1 + l.length then l.getD (i - (o + 1)) 0 else (p.setB o c).B i } : Dp) = { p with B := fun i => if o ≤ i ∧ i < o + (c :: l).length then (c :: l).getD (i - o) 0 else p.B i } := by rw [e]; rfl
    rw [e'] at h2
    exact ⟨h2, (Fr.setCell (Fr.refl (fun x => x = b) w) (p := ⟨b, 82 + o, none⟩) (.inl rfl) (.int .u8 c)).trans h3⟩
theorem dcell_B (p : Dp) (f f' : Nat → Int) (k : Nat) (h : f (k - 82) = f' (k - 82)) : dcell { p with B := f } k = dcell { p with B := f' } k := by
  unfold dcell
  dsimp only
  rw [h]
def sumF (S : Nat → Nat) (i : Nat) : Nat := allF S (-1) i
theorem sumF_succ (S : Nat → Nat) (i : Nat) : sumF S (i + 1) = sumF S i + S i := by
  show allF S (-1) i + (if (i : Int) = -1 then 0 else S i) = _
  rw [if_neg (by omega)]; rfl
theorem sumF_mono (S : Nat → Nat) {m n : Nat} (h : m ≤ n) : sumF S m ≤ sumF S n := by
  induction n with
  | zero => have : m = 0 := by omega
            subst this; exact Nat.le_refl _
  | succ n ih =>
    rcases Nat.lt_or_ge m (n + 1) with e | e
    · have := ih (by omega); rw [sumF_succ]; omega
    · have : m = n + 1 := by omega
      subst this; exact Nat.le_refl _
def togO (p : Dp) (i : Nat) : Nat → Nat := fun t => if t < i ∧ p.S t ≠ 0 then 448 - sumF p.S (t + 1) else p.O t
def togB (p : Dp) : Nat → Nat → Int
  | 0 => fun _ => 0
  | i + 1 => fun x => if 448 - sumF p.S (i + 1) ≤ x ∧ x < 448 - sumF p.S i then p.B (p.O i + (x - (448 - sumF p.S (i + 1)))) else togB p i x
def innB (p : Dp) (i k : Nat) : Nat → Int := fun x => if 448 - sumF p.S (i + 1) ≤ x ∧ x < 448 - sumF p.S (i + 1) + k then p.B (p.O i + (x - (448 - sumF p.S (i + 1)))) else togB p i x
def togP (p : Dp) (i : Nat) : Dp := { p with O := togO p i }
def togD (p : Dp) : Dp := { p with O := togO p 40, B := togB p 40 }
theorem togB_b {p : Dp} (h : p.Ok) : ∀ i x, 0 ≤ togB p i x ∧ togB p i x ≤ 255 := by
  intro i
  induction i with
  | zero => intro x; show (0 : Int) ≤ 0 ∧ (0 : Int) ≤ 255; decide
  | succ i ih =>
    intro x
    unfold togB
    split
    · exact h.B _
    · exact ih x
theorem togP_zero (p : Dp) : togP p 0 = p := by
  unfold togP togO
  have : (fun t => if t < 0 ∧ p.S t ≠ 0 then 448 - sumF p.S (t + 1) else p.O t) = p.O := by funext t; rw [if_neg (by omega)]
  rw [this]
theorem togP_skip (p : Dp) {i : Nat} (h : p.S i = 0) : togP p (i + 1) = togP p i := by
  unfold togP togO
  congr 1
  funext t
  by_cases e : t = i
  · subst e
    rw [if_neg (fun x => x.2 h), if_neg (by omega)]
  · by_cases e2 : t < i ∧ p.S t ≠ 0
    · rw [if_pos ⟨by omega, e2.2⟩, if_pos e2]
    · rw [if_neg (fun x => e2 ⟨by omega, x.2⟩), if_neg e2]
theorem togP_set (p : Dp) {i : Nat} (h : p.S i ≠ 0) : (togP p i).setO i (448 - sumF p.S (i + 1)) = togP p (i + 1) := by
  unfold togP togO Dp.setO
  congr 1
  funext t
  show (if t = i then _ else if t < i ∧ p.S t ≠ 0 then _ else _) = _
  by_cases e : t = i
  · subst e
    rw [if_pos rfl, if_pos ⟨by omega, h⟩]
  · rw [if_neg e]
    by_cases e2 : t < i ∧ p.S t ≠ 0
    · rw [if_pos e2, if_pos ⟨by omega, e2.2⟩]
    · rw [if_neg e2, if_neg (fun x => e2 ⟨by omega, x.2⟩)]
theorem togB_skip (p : Dp) {i : Nat} (h : p.S i = 0) : togB p (i + 1) = togB p i := by
  funext x
  have := sumF_succ p.S i
  show (if 448 - sumF p.S (i + 1) ≤ x ∧ x < 448 - sumF p.S i then _ else togB p i x) = _
  rw [if_neg (by omega)]
theorem innB_zero (p : Dp) (i : Nat) : innB p i 0 = togB p i := by
  funext x
  unfold innB
  rw [if_neg (by omega)]
theorem innB_all (p : Dp) (i : Nat) (h : sumF p.S (i + 1) ≤ 448) : innB p i (p.S i) = togB p (i + 1) := by
  funext x
  have := sumF_succ p.S i
  show (if 448 - sumF p.S (i + 1) ≤ x ∧ x < 448 - sumF p.S (i + 1) + p.S i then _ else _) = (if 448 - sumF p.S (i + 1) ≤ x ∧ x < 448 - sumF p.S i then _ else _)
  rw [show 448 - sumF p.S (i + 1) + p.S i = 448 - sumF p.S i by omega]
theorem innB_step (p : Dp) (i k : Nat) : (fun x => if x = 448 - sumF p.S (i + 1) + k then p.B (p.O i + k) else innB p i k x) = innB p i (k + 1) := by
  funext x
  unfold innB
  by_cases e : x = 448 - sumF p.S (i + 1) + k
  · rw [if_pos e, if_pos (by omega)]
    congr 2; omega
  · rw [if_neg e]
    by_cases e2 : 448 - sumF p.S (i + 1) ≤ x ∧ x < 448 - sumF p.S (i + 1) + k
    · rw [if_pos e2, if_pos (by omega)]
    · rw [if_neg e2, if_neg (by omega)]
theorem zeroIx (W : World) : (zeroValue 61).run Try.prog W = .ok (.agg (pgC z448)) W := by kernel_rfl
theorem ix_info : (Try.prog.info? 61).map (·.size) = some 448 := by kernel_rfl
theorem lst_zero (p : Dp) : lst (togB p 0) = z448 := by
  apply list_getD (by rw [lst_len]; exact List.length_replicate.symm)
  intro i hi
  rw [lst_len] at hi
  rw [lst_getD _ i hi, z_getD]; rfl
set_option maxRecDepth 100000 in
set_option maxHeartbeats 8000000 in
theorem rtogether (w : World) (b : Nat) (p : Dp) (h : DpAt w b p) (hf : ∀ t, t < 40 → p.S t ≠ 0 → p.O t + p.S t ≤ 448) (hsum : sumF p.S 40 ≤ 448) :
    Calls Try.prog 56 #[.pointer (some ⟨b, 0, none⟩)] w fun e w' => e = .returned (.tuple #[]) ∧ DpAt w' b (togD p) ∧ Fr (fun x => x = b) w w' := by
  obtain ⟨PZ, hPZ⟩ : ∃ PZ, PZ = pgC z448 := ⟨_, rfl⟩
  have hz : ∀ W : World, (zeroValue 61).run Try.prog W = .ok (.agg PZ) W := fun W => by rw [hPZ]; exact zeroIx W
  have HF := Lib.hid hf
  have HSM := Lib.hid hsum
  have HOK := Lib.hid h.ok
  have HBL0 := Lib.hid h.box.lt
  obtain ⟨w1, hw1⟩ : ∃ w1, w.alloc (.cells PZ 61) = w1 := ⟨_, rfl⟩
  obtain ⟨g, hg⟩ : ∃ g, g = w.heap.size := ⟨_, rfl⟩
  have I1 := Lib.hid (show IxAt w1 g (lst (togB p 0)) by rw [lst_zero]; exact ⟨by rw [← hw1, hg, hPZ]; exact Box.new _ _ _, List.length_replicate, z448_bytes⟩)
  have B1 := Lib.hid (show Below w.heap.size w w1 by rw [← hw1]; exact new_ (Below.refl _ _) _)
  have D1 := Lib.hid (show DpAt w1 b (togP p 0) by rw [togP_zero]; exact h.later B1.out)
  have HG := Lib.hid hg
  clear h hf hsum hPZ
  go_enter Try.func56, Try.ntmps56
  go_upto_region 1 with fail
  try rw [hw1]
  rw [← hg]
  clear hw1 hg hz
  go_wp2
  go_loopw [3, 4, 5] (fun av iv _ wr => ∃ i : Nat, i ≤ 40 ∧ iv = .int .i64 i ∧ av = .int .i64 ((448 - sumF p.S i : Nat) : Int) ∧ Hid (DpAt wr b (togP p i)) ∧ Hid (IxAt wr g (lst (togB p i))) ∧ Hid (Fr (fun x => x = b) w wr)) (fun _ iv _ _ => 40 - (intOf iv).toNat)
  case atStart => exact ⟨0, Nat.zero_le _, rfl, rfl, D1, I1, Lib.hid (Fr.of_below B1.out)⟩
  case round =>
    obtain ⟨i, hi, rfl, rfl, HD, HI, HFR⟩ := hrel
    clear D1 I1 B1
    by_cases hlt : i < 40
    · have hss := sumF_succ p.S i
      have hsm := sumF_mono p.S (show i + 1 ≤ 40 by omega)
      have hs4 := HSM.out
      have HSS := Lib.hid (show sumF p.S (i + 1) = sumF p.S i + p.S i ∧ sumF p.S (i + 1) ≤ 448 from ⟨hss, by omega⟩)
      have HLT := Lib.hid hlt
      have hi4 : (i : Int) < 40 := by omega
      obtain ⟨l, hl⟩ : ∃ l, l = p.S i := ⟨_, rfl⟩
      have HLE := Lib.hid hl
      have kc : wr.cell? ⟨b, 42 + i, none⟩ = some (.int .i64 (l : Int)) := by rw [hl]; exact HD.out.s i hlt
      by_cases h0 : l = 0
      · have hz0 : p.S i = 0 := by rw [← hl]; exact h0
        have HD2 := Lib.hid (show DpAt wr b (togP p (i + 1)) by rw [togP_skip p hz0]; exact HD.out)
        have HI2 := Lib.hid (show IxAt wr g (lst (togB p (i + 1))) by rw [togB_skip p hz0]; exact HI.out)
        have HAT := Lib.hid (show ((448 - sumF p.S i : Nat) : Int) = ((448 - sumF p.S (i + 1) : Nat) : Int) by rw [hss, hz0]; rfl)
        obtain ⟨at0, hat0⟩ : ∃ a : Int, a = ((448 - sumF p.S i : Nat) : Int) := ⟨_, rfl⟩
        rw [← hat0] at HAT ⊢
        rw [h0] at kc
        clear hl h0 hz0 hss hsm hs4 hat0 hlt hi HD HI
        go_wp2
        go_roundw
        case rel => exact ⟨i + 1, by have := HLT.out; omega, by go_num, by rw [HAT.out], HD2, HI2, HFR⟩
        case measure => have := HLT.out; simp [intOf]; omega
      · have d0 : decide ((0 : Int) < (l : Int)) = true := by simp; omega
        have d0' : decide (0 < l) = true := by simp; omega
        obtain ⟨at_, hat⟩ : ∃ a, a = 448 - sumF p.S (i + 1) := ⟨_, rfl⟩
        obtain ⟨at0, hat0⟩ : ∃ a : Int, a = ((448 - sumF p.S i : Nat) : Int) := ⟨_, rfl⟩
        have wa : wrap64 (at0 - (l : Int)) = (at_ : Int) := by rw [hat0, hat, wrap64_in _ (by omega)]; omega
        have HWA := Lib.hid wa
        have HAT := Lib.hid hat
        have HL0 := Lib.hid h0
        obtain ⟨o, ho⟩ : ∃ o, o = p.O i := ⟨_, rfl⟩
        have HOE := Lib.hid ho
        have HW8 := Lib.hid (show o + l ≤ 448 ∧ at_ + l ≤ 448 from ⟨by rw [ho, hl]; exact HF.out i hlt (by rw [← hl]; exact h0), by omega⟩)
        have HKO := Lib.hid (show ∀ W, DpAt W b (togP p i) → W.cell? ⟨b, 2 + i, none⟩ = some (.int .i64 (o : Int)) from fun W hW => by
          have := hW.o i hlt
          rw [show (togP p i).O i = o by show togO p i i = o; unfold togO; rw [if_neg (by omega), ho]] at this
          exact this)
        have II := Lib.hid (show IxAt wr g (lst (innB p i 0)) by rw [innB_zero]; exact HI.out)
        rw [← hat0]
        clear hl h0 hss hsm hs4 hat0 hlt hi HI hat ho
        obtain ⟨wj, rfl⟩ : ∃ wj, wj = wr := ⟨wr, rfl⟩
        go_wp2
        rw [HWA.out]
        clear wa kc d0 d0'
        go_loopw [5] (fun kv wr => ∃ k : Nat, k ≤ l ∧ kv = .int .i64 k ∧ Hid (IxAt wr g (lst (innB p i k))) ∧ Hid (Fr (fun x => x = g) wj wr)) (fun kv _ => l - (intOf kv).toNat)
        case atStart => exact ⟨0, Nat.zero_le _, rfl, II, Lib.hid (Fr.refl _ _)⟩
        case round =>
          obtain ⟨k, hk, rfl, HK, HFG⟩ := hrel
          clear II
          have DW := Lib.hid (HD.out.fr HFG.out (by have := HBL0.out; rw [HG.out]; omega))
          have kc : wr.cell? ⟨b, 42 + i, none⟩ = some (.int .i64 (l : Int)) := by rw [HLE.out]; exact DW.out.s i HLT.out
          by_cases hlk : k < l
          · have dk : decide ((k : Int) < (l : Int)) = true := by simp; omega
            have dk' : decide (k < l) = true := by simp; omega
            have HLK := Lib.hid (show o + k < 448 ∧ at_ + k < 448 ∧ k < l from by have := HW8.out; omega)
            obtain ⟨m1, hm1⟩ : ∃ m, m = at_ + k := ⟨_, rfl⟩
            obtain ⟨m2, hm2⟩ : ∃ m, m = o + k := ⟨_, rfl⟩
            have HWK := Lib.hid (show (IntKind.i64.wrap ((at_ : Int) + (k : Int)) = (m1 : Int) ∧ IntKind.i64.wrap ((o : Int) + (k : Int)) = (m2 : Int)) ∧ wrap64 ((at_ : Int) + (k : Int)) = (m1 : Int) ∧ wrap64 ((o : Int) + (k : Int)) = (m2 : Int) from by
              have := HLK.out
              exact ⟨⟨by rw [IntWalk.i64_in _ (by omega)]; omega, by rw [IntWalk.i64_in _ (by omega)]; omega⟩, by rw [wrap64_in _ (by omega)]; omega, by rw [wrap64_in _ (by omega)]; omega⟩)
            have HM := Lib.hid (show m1 < 448 ∧ m2 < 448 by have := HLK.out; omega)
            have HBL := Lib.hid DW.out.box.lt
            have KO := Lib.hid (HKO.out wr DW.out)
            obtain ⟨c, hc⟩ : ∃ c, c = p.B (o + k) := ⟨_, rfl⟩
            have KB := Lib.hid (show wr.cell? ⟨b, 82 + m2, none⟩ = some (.int .u8 c) by rw [hc, hm2]; exact DW.out.bb (o + k) HLK.out.1)
            have HC8 := Lib.hid (show 0 ≤ c ∧ c ≤ 255 by rw [hc]; exact HOK.out.B _)
            obtain ⟨bb, hbb⟩ : ∃ bb, bb = lst (innB p i k) := ⟨_, rfl⟩
            have IG := Lib.hid (show IxAt wr g bb by rw [hbb]; exact HK.out)
            have HST := Lib.hid (show bb.set m1 c = lst (innB p i (k + 1)) by
              rw [hbb, hm1, lst_set _ _ _ HLK.out.2.1, hc, HOE.out, HAT.out, innB_step])
            clear hk hlk hc hbb HK DW hm1 hm2
            go_upto_region 10 with fail
            clear kc dk dk'
            refine wp_region_end (by kernel_rfl) (by kernel_rfl) 17 (fun W W' => Fr (fun x => x = g) W W') (fun W => IxAt W g (bb.set m1 c) ∧ Fr (fun x => x = g) wr W) [(fun v _ => v = .int .i64 at_), (fun v _ => v = .int .i64 k), (fun v _ => v = .int .i64 m1), (fun v _ => v = .pointer (some ⟨b, 0, none⟩)), (fun v _ => v = .pointer (some ⟨b, 0, none⟩)), (fun v _ => v = .int .i64 i), (fun v _ => v = .pointer (some ⟨b, 0, none⟩)), (fun v _ => v = .pointer (some ⟨b, 2, none⟩)), (fun v _ => v = .pointer (some ⟨b, 2 + i, none⟩)), (fun v _ => v = .int .i64 o), (fun v _ => v = .int .i64 k), (fun v _ => v = .int .i64 m2), (fun v _ => v = .pointer (some ⟨b, 0, none⟩)), (fun v _ => v = .pointer (some ⟨b, 82, none⟩)), (fun v _ => v = .pointer (some ⟨b, 82 + m2, none⟩)), (fun v _ => v = .int .u8 c), (fun v _ => v = .pointer (some ⟨g, m1, none⟩)), (fun v _ => v = undef)] (fun W W' hb h => ⟨h.1.later hb, h.2.below hb⟩) ?_ (fun vals => ?_) (fun vals W hfin hall => ?_) (by decide)
            · intro j v W W' hj hr h
              match j, hj, h with
              | 0, _, h => exact h
              | 1, _, h => exact h
              | 2, _, h => exact h
              | 3, _, h => exact h
              | 4, _, h => exact h
              | 5, _, h => exact h
              | 6, _, h => exact h
              | 7, _, h => exact h
              | 8, _, h => exact h
              | 9, _, h => exact h
              | 10, _, h => exact h
              | 11, _, h => exact h
              | 12, _, h => exact h
              | 13, _, h => exact h
              | 14, _, h => exact h
              | 15, _, h => exact h
              | 16, _, h => exact h
              | 17, hj, _ => exact absurd rfl hj
              | _ + 18, _, _ => trivial
            · simp only [ObL, Act.put, List.setIfInBounds_toArray, List.set_cons_succ, List.set_cons_zero]
              refine ⟨?_, ?_, ?_, ?_, ?_, ?_, ?_, ?_, ?_, ?_, ?_, ?_, ?_, ?_, ?_, ?_, ?_, ?_, trivial⟩
              · intro L W hL hk hC hw
                clear hw
                clear hL hC hk
                refine step_plain rfl ?_
                go_simp
                first | exact ⟨Re.same (by decide), Fe.val (by decide) rfl rfl⟩ | exact ⟨_, rfl, Re.same (by decide), Fe.val (by decide) rfl rfl⟩
              · intro L W hL hk hC hw
                clear hw
                clear hL hC hk
                refine step_plain rfl ?_
                go_simp
                first | exact ⟨Re.same (by decide), Fe.val (by decide) rfl rfl⟩ | exact ⟨_, rfl, Re.same (by decide), Fe.val (by decide) rfl rfl⟩
              · intro L W hL hk hC hw
                have f0 : vals 0 = .int .i64 at_ := Fe.get (hw ⟨0, .data⟩ (by simp) rfl) (by decide)
                have f1 : vals 1 = .int .i64 k := Fe.get (hw ⟨1, .data⟩ (by simp) rfl) (by decide)
                clear hw
                have w1 : IntKind.i64.wrap ((at_ : Int) + (k : Int)) = (m1 : Int) := HWK.out.1.1
                have w2 := HWK.out.2.1
                clear hL hC hk
                refine step_plain rfl ?_
                go_simp
                first | exact ⟨Re.same (by decide), Fe.val (by decide) rfl (by first | rfl | rw [w1] | rw [w2])⟩ | exact ⟨_, rfl, Re.same (by decide), Fe.val (by decide) rfl (by first | rfl | rw [w1] | rw [w2])⟩
              · intro L W hL hk hC hw
                clear hw
                clear hL hC hk
                refine step_plain rfl ?_
                go_simp
                first | exact ⟨Re.same (by decide), Fe.val (by decide) rfl rfl⟩ | exact ⟨_, rfl, Re.same (by decide), Fe.val (by decide) rfl rfl⟩
              · intro L W hL hk hC hw
                clear hw
                clear hL hC hk
                refine step_plain rfl ?_
                go_simp
                first | exact ⟨Re.same (by decide), Fe.val (by decide) rfl rfl⟩ | exact ⟨_, rfl, Re.same (by decide), Fe.val (by decide) rfl rfl⟩
              · intro L W hL hk hC hw
                clear hw
                clear hL hC hk
                refine step_plain rfl ?_
                go_simp
                first | exact ⟨Re.same (by decide), Fe.val (by decide) rfl rfl⟩ | exact ⟨_, rfl, Re.same (by decide), Fe.val (by decide) rfl rfl⟩
              · intro L W hL hk hC hw
                have f4 : vals 4 = .pointer (some ⟨b, 0, none⟩) := Fe.get (hw ⟨4, .data⟩ (by simp) rfl) (by decide)
                clear hw
                clear hL hC hk
                refine step_plain rfl ?_
                go_simp
                first | exact ⟨Re.same (by decide), Fe.val (by decide) rfl rfl⟩ | exact ⟨_, rfl, Re.same (by decide), Fe.val (by decide) rfl rfl⟩
              · intro L W hL hk hC hw
                have f6 : vals 6 = .pointer (some ⟨b, 0, none⟩) := Fe.get (hw ⟨6, .data⟩ (by simp) rfl) (by decide)
                clear hw
                clear hL hC hk
                refine step_plain rfl ?_
                go_simp
                first | exact ⟨Re.same (by decide), Fe.val (by decide) rfl rfl⟩ | exact ⟨_, rfl, Re.same (by decide), Fe.val (by decide) rfl rfl⟩
              · intro L W hL hk hC hw
                have f7 : vals 7 = .pointer (some ⟨b, 2, none⟩) := Fe.get (hw ⟨7, .data⟩ (by simp) rfl) (by decide)
                have f5 : vals 5 = .int .i64 i := Fe.get (hw ⟨5, .data⟩ (by simp) rfl) (by decide)
                clear hw
                have h1 : (i : Int) < 40 := by have := HLT.out; omega
                clear hL hC hk
                refine step_plain rfl ?_
                go_simp
                first | exact ⟨Re.same (by decide), Fe.val (by decide) rfl rfl⟩ | exact ⟨_, rfl, Re.same (by decide), Fe.val (by decide) rfl rfl⟩
              · intro L W hL hk hC hw
                have f8 : vals 8 = .pointer (some ⟨b, 2 + i, none⟩) := Fe.get (hw ⟨8, .data⟩ (by simp) rfl) (by decide)
                clear hw
                have hb := hC (hL.not_yet hk 17 8 (by decide +kernel))
                have kc : W.cell? ⟨b, 2 + i, none⟩ = some (.int .i64 o) := (hb.cell HBL.out).trans KO.out
                clear hL hC hk hb
                refine step_plain rfl ?_
                go_simp
                first | exact ⟨Re.same (by decide), Fe.val (by decide) rfl rfl⟩ | exact ⟨_, rfl, Re.same (by decide), Fe.val (by decide) rfl rfl⟩
              · intro L W hL hk hC hw
                clear hw
                clear hL hC hk
                refine step_plain rfl ?_
                go_simp
                first | exact ⟨Re.same (by decide), Fe.val (by decide) rfl rfl⟩ | exact ⟨_, rfl, Re.same (by decide), Fe.val (by decide) rfl rfl⟩
              · intro L W hL hk hC hw
                have f9 : vals 9 = .int .i64 o := Fe.get (hw ⟨9, .data⟩ (by simp) rfl) (by decide)
                have f10 : vals 10 = .int .i64 k := Fe.get (hw ⟨10, .data⟩ (by simp) rfl) (by decide)
                clear hw
                have w1 : IntKind.i64.wrap ((o : Int) + (k : Int)) = (m2 : Int) := HWK.out.1.2
                have w2 := HWK.out.2.2
                clear hL hC hk
                refine step_plain rfl ?_
                go_simp
                first | exact ⟨Re.same (by decide), Fe.val (by decide) rfl (by first | rfl | rw [w1] | rw [w2])⟩ | exact ⟨_, rfl, Re.same (by decide), Fe.val (by decide) rfl (by first | rfl | rw [w1] | rw [w2])⟩
              · intro L W hL hk hC hw
                have f3 : vals 3 = .pointer (some ⟨b, 0, none⟩) := Fe.get (hw ⟨3, .data⟩ (by simp) rfl) (by decide)
                clear hw
                clear hL hC hk
                refine step_plain rfl ?_
                go_simp
                first | exact ⟨Re.same (by decide), Fe.val (by decide) rfl rfl⟩ | exact ⟨_, rfl, Re.same (by decide), Fe.val (by decide) rfl rfl⟩
              · intro L W hL hk hC hw
                have f12 : vals 12 = .pointer (some ⟨b, 0, none⟩) := Fe.get (hw ⟨12, .data⟩ (by simp) rfl) (by decide)
                clear hw
                clear hL hC hk
                refine step_plain rfl ?_
                go_simp
                first | exact ⟨Re.same (by decide), Fe.val (by decide) rfl rfl⟩ | exact ⟨_, rfl, Re.same (by decide), Fe.val (by decide) rfl rfl⟩
              · intro L W hL hk hC hw
                have f13 : vals 13 = .pointer (some ⟨b, 82, none⟩) := Fe.get (hw ⟨13, .data⟩ (by simp) rfl) (by decide)
                have f11 : vals 11 = .int .i64 m2 := Fe.get (hw ⟨11, .data⟩ (by simp) rfl) (by decide)
                clear hw
                have h1 : (m2 : Int) < 448 := by have := HM.out; omega
                clear hL hC hk
                refine step_plain rfl ?_
                go_simp
                first | exact ⟨Re.same (by decide), Fe.val (by decide) rfl rfl⟩ | exact ⟨_, rfl, Re.same (by decide), Fe.val (by decide) rfl rfl⟩
              · intro L W hL hk hC hw
                have f14 : vals 14 = .pointer (some ⟨b, 82 + m2, none⟩) := Fe.get (hw ⟨14, .data⟩ (by simp) rfl) (by decide)
                clear hw
                have hb := hC (hL.not_yet hk 17 8 (by decide +kernel))
                have kc : W.cell? ⟨b, 82 + m2, none⟩ = some (.int .u8 c) := (hb.cell HBL.out).trans KB.out
                clear hL hC hk hb
                refine step_plain rfl ?_
                go_simp
                first | exact ⟨Re.same (by decide), Fe.val (by decide) rfl rfl⟩ | exact ⟨_, rfl, Re.same (by decide), Fe.val (by decide) rfl rfl⟩
              · intro L W hL hk hC hw
                have f2 : vals 2 = .int .i64 m1 := Fe.get (hw ⟨2, .data⟩ (by simp) rfl) (by decide)
                clear hw
                have h1 : (m1 : Int) < 448 := by have := HM.out; omega
                clear hL hC hk
                refine step_plain rfl ?_
                go_simp
                first | exact ⟨Re.same (by decide), Fe.val (by decide) rfl rfl⟩ | exact ⟨_, rfl, Re.same (by decide), Fe.val (by decide) rfl rfl⟩
              · intro L W hL hk hC hw
                have f16 : vals 16 = .pointer (some ⟨g, m1, none⟩) := Fe.get (hw ⟨16, .data⟩ (by simp) rfl) (by decide)
                have f15 : vals 15 = .int .u8 c := Fe.get (hw ⟨15, .data⟩ (by simp) rfl) (by decide)
                clear hw
                have hb := hC hk
                have ig := IG.out.later hb
                have kc := ig.cell m1 (by have := HM.out; omega)
                have kf := ig.box.frozen m1
                have Z1 := Lib.hid (ix_set ig m1 c HC8.out)
                have Z2 := Lib.hid (Fr.setCell (Fr.refl (fun x => x = g) W) (p := ⟨g, m1, none⟩) (.inl rfl) (.int .u8 c))
                have Z3 := Lib.hid ((Fr.of_below (S := fun x => x = g) hb).trans Z2.out)
                clear hL hC hk hb ig
                refine step_plain rfl ?_
                go_simp
                first | exact ⟨_, rfl, Re.last Z2.out, Fe.last ⟨Z1.out, Z3.out⟩⟩ | exact ⟨Re.last Z2.out, Fe.last ⟨Z1.out, Z3.out⟩⟩ | exact ⟨Re.last Z2.out, undef, Fe.last ⟨Z1.out, Z3.out⟩⟩ | exact ⟨Re.last Z2.out, _, Fe.last ⟨Z1.out, Z3.out⟩⟩
            · simp only [TL, Act.put, List.setIfInBounds_toArray, List.set_cons_succ, List.set_cons_zero]
              obtain ⟨hI9, hF9⟩ := hfin
              rw [HST.out] at hI9
              have I9 := Lib.hid hI9
              have F9 := Lib.hid (HFG.out.trans hF9)
              clear hall hI9 hF9
              have hk9 : k < 448 := by have := HLK.out; omega
              go_wp2
              go_roundw
              case rel => exact ⟨k + 1, by have := HLK.out; omega, by go_num, I9, F9⟩
              case measure => have := HLK.out; simp [intOf]; omega
          · have dk : decide ((k : Int) < (l : Int)) = false := by simp; omega
            have dk' : decide (k < l) = false := by simp; omega
            have hke : k = l := by omega
            have HI9 := Lib.hid (show IxAt wr g (lst (togB p (i + 1))) by rw [← innB_all p i HSS.out.2, ← HLE.out, ← hke]; exact HK.out)
            have ko := HKO.out wr DW.out
            have kf := DW.out.box.frozen (2 + i)
            obtain ⟨w8, hw8⟩ : ∃ w8, w8 = wr.setCell ⟨b, 2 + i, none⟩ (.int .i64 (at_ : Int)) := ⟨_, rfl⟩
            have D8 := Lib.hid (show DpAt w8 b (togP p (i + 1)) by
              rw [hw8, ← togP_set p (by rw [← HLE.out]; exact HL0.out), ← HAT.out]
              exact DW.out.setO i at_ HLT.out (by have := HW8.out; omega))
            have I8 := Lib.hid (show IxAt w8 g (lst (togB p (i + 1))) by
              rw [hw8]
              exact ⟨HI9.out.box.far (show ¬ g = b by have := HBL0.out; rw [HG.out]; omega) _, HI9.out.len, HI9.out.byt⟩)
            have F8 := Lib.hid (show Fr (fun x => x = b) w w8 by
              rw [hw8]
              exact Fr.setCell (HFR.out.trans' HFG.out (fun x hx hs => by have := HG.out; omega)) (p := ⟨b, 2 + i, none⟩) (.inl rfl) _)
            clear hke hk hlk HK HI9 DW
            go_upto_region 4 with fail
            rw [← hw8]
            clear hw8 ko kf kc dk dk'
            go_wp2
            go_roundw
            case rel => exact ⟨i + 1, by have := HLT.out; omega, by go_num, by rw [HAT.out], D8, I8, F8⟩
            case measure => have := HLT.out; simp [intOf]; omega
    · have hie : i = 40 := by omega
      subst hie
      obtain ⟨xs, hxs⟩ : ∃ xs, xs = lst (togB p 40) := ⟨_, rfl⟩
      have IX := Lib.hid (show IxAt wr g xs by rw [hxs]; exact HI.out)
      have HSX := Lib.hid (show (Try.prog.info? 61).map (·.size) = some (pgC xs).size by rw [pgC_size IX.out.len]; exact ix_info)
      have ST := Lib.hid (dp_store xs 0 wr (togP p 40) HD.out (by rw [IX.out.len]; decide) IX.out.byt)
      have HTD := Lib.hid (show DpAt (wr.setCells b 82 (xs.map (.int .u8))) b (togD p) from by
        have h9 := ST.out.1
        have e : (fun i => if 0 ≤ i ∧ i < 0 + xs.length then xs.getD (i - 0) 0 else (togP p 40).B i) = (fun i => if i < 448 then togB p 40 i else p.B i) := by
          funext i
          rw [IX.out.len]
          by_cases e : i < 448
          · rw [if_pos (by omega), if_pos e, hxs, Nat.sub_zero, lst_getD _ _ e]
          · rw [if_neg (by omega), if_neg e]; rfl
        rw [e] at h9
        refine ⟨?_, ⟨h9.ok.L, h9.ok.N, h9.ok.O, h9.ok.S, fun i => togB_b HOK.out 40 i⟩⟩
        have h10 := h9.box
        have e2 : dpC { togP p 40 with B := fun i => if i < 448 then togB p 40 i else p.B i } = dpC (togD p) := by
          unfold dpC
          refine congrArg List.toArray (List.map_congr_left (fun k hk => ?_))
          have hk := List.mem_range.1 hk
          exact dcell_B (togP p 40) _ _ k (if_pos (by omega))
        rw [e2] at h10
        exact h10)
      have HFS := Lib.hid (HFR.out.trans ST.out.2)
      have HTH := Lib.hid (show wr.there b 82 (pgC xs).size from fun j hj => by
        rw [pgC_size IX.out.len] at hj
        exact ⟨by rw [HD.out.bb j hj]; rfl, HD.out.box.frozen _⟩)
      have HON := Lib.hid (show (pgC xs).all (·.oneCell') = true from by
        unfold pgC
        exact all_oneCell_toArray (fun v hv => by obtain ⟨z, _, rfl⟩ := List.mem_map.1 hv; rfl))
      have HEL := Lib.hid (show (pgC xs).toList = xs.map (.int .u8) from rfl)
      clear hxs hi hlt
      go_wp2_with fail
      refine wp_load_row 61 _ rfl g rfl 61 (pgC xs) (0, 0) _ IX.out.box Try.underlying61 rfl HSX.out ?_
      obtain ⟨PX, hPX⟩ : ∃ P, P = pgC xs := ⟨_, rfl⟩
      rw [← hPX] at HTH HON HEL HSX ⊢
      clear hPX
      go_wp2_with (first
        | (refine wpList_store_mid rfl 61 _ _ rfl b 82 PX rfl rfl HTH.out HSX.out HON.out ?_
           rw [HEL.out])
        | fail)
      go_end0
      exact ⟨rfl, HTD.out, HFS.out⟩
end Go.Proofs.Ythbbnebanmpcjaa.Pg

/- The document's page: Set. -/
namespace Go.Proofs.Ythbbnebanmpcjaa.Pg
open Go.ChangeShapes Go.WideShapes Go.ChangeAt Go.RowKit Go.IntWalk Go.Proofs.Mem Go.Proofs.Each
set_option linter.unusedVariables false
set_option linter.unusedSimpArgs false
def nD (p : Dp) (s : Nat) : Nat := max (trimF p.S 40) (s + 1)
def aD (p : Dp) (s : Nat) : Dp := if p.S s = 0 then p else clearD p s
def gD (p : Dp) (s k : Nat) : Bool := decide ((lowF (aD p s).O (aD p s).S 40 : Int) - 16 - 4 * (nD p s : Int) < (k : Int))
def bD (p : Dp) (s k : Nat) : Dp := if gD p s k = true then togD (aD p s) else aD p s
def cD (p : Dp) (s k : Nat) : Dp := ((bD p s k).setO s (lowF (bD p s k).O (bD p s k).S 40 - k)).setS s k
def qD (p : Dp) (s k : Nat) : Dp := if p.S s = k then p else cD p s k
def datD (q : Dp) (o : Nat) (ys : List Int) (n : Nat) : Dp := { q with B := fun i => if o ≤ i ∧ i < o + n then ys.getD (i - o) 0 else q.B i }
def setD (p : Dp) (s : Nat) (ys : List Int) : Dp := datD (qD p s ys.length) ((qD p s ys.length).O s) ys ys.length
structure OkD (p : Dp) (s k : Nat) : Prop where
  fit : p.S s ≠ 0 → p.O s + p.S s ≤ 448
  tog : p.S s ≠ k → gD p s k = true → (∀ t, t < 40 → (aD p s).S t ≠ 0 → (aD p s).O t + (aD p s).S t ≤ 448) ∧ sumF (aD p s).S 40 ≤ 448
  lay : p.S s ≠ k → k ≤ lowF (bD p s k).O (bD p s k).S 40
theorem datD_zero (q : Dp) (o : Nat) (ys : List Int) : datD q o ys 0 = q := by
  unfold datD
  have : (fun i => if o ≤ i ∧ i < o + 0 then ys.getD (i - o) 0 else q.B i) = q.B := by funext i; rw [if_neg (by omega)]
  rw [this]
theorem datD_step (q : Dp) (o : Nat) (ys : List Int) (j : Nat) : (datD q o ys j).setB (o + j) (ys.getD j 0) = datD q o ys (j + 1) := by
  unfold datD Dp.setB
  congr 1
  funext i
  show (if i = o + j then ys.getD j 0 else if o ≤ i ∧ i < o + j then ys.getD (i - o) 0 else q.B i) = _
  by_cases e : i = o + j
  · rw [if_pos e, if_pos (by omega), show i - o = j by omega]
  · rw [if_neg e]
    by_cases e2 : o ≤ i ∧ i < o + j
    · rw [if_pos e2, if_pos (by omega)]
    · rw [if_neg e2, if_neg (by omega)]
theorem rclear_some (w : World) (b : Nat) (p : Dp) (h : DpAt w b p) (s : Nat) (hs : s < 40) (hf : p.S s ≠ 0 → p.O s + p.S s ≤ 448) :
    Calls Try.prog 31 #[.pointer (some ⟨b, 0, none⟩), .int .i64 (s : Int)] w fun e w' => e = .returned (.bool (decide (p.S s ≠ 0))) ∧ DpAt w' b (aD p s) ∧ Fr (fun x => x = b) w w' := by
  by_cases h0 : p.S s = 0
  · have e1 : aD p s = p := by unfold aD; rw [if_pos h0]
    have e2 : decide (p.S s ≠ 0) = false := decide_eq_false (fun x => x h0)
    rw [e1, e2]
    refine (rclear_no w b p h (s : Int) (.inr (.inr ⟨s, rfl, hs, h0⟩))).mono ?_
    rintro e w1 ⟨rfl, rfl⟩
    exact ⟨rfl, h, Fr.refl _ _⟩
  · have e1 : aD p s = clearD p s := by unfold aD; rw [if_neg h0]
    have e2 : decide (p.S s ≠ 0) = true := decide_eq_true h0
    rw [e1, e2]
    exact rclear_yes w b p h s hs h0 (hf h0)
theorem rset_bad (w : World) (b : Nat) (N : Int) (A : Option Addr) (k c : Nat) (h : N < 0 ∨ 39 < N ∨ k < 1 ∨ 64 < k) :
    Calls Try.prog 34 #[.pointer (some ⟨b, 0, none⟩), .int .i64 N, .slice A k c] w fun e w' => e = .returned (.int .i64 91) ∧ w = w' := by
  obtain ⟨q1, hq1⟩ : ∃ q, decide (N < 0) = q := ⟨_, rfl⟩
  obtain ⟨q2, hq2⟩ : ∃ q, decide ((39 : Int) < N) = q := ⟨_, rfl⟩
  obtain ⟨q3, hq3⟩ : ∃ q, decide ((k : Int) < 1) = q := ⟨_, rfl⟩
  obtain ⟨q4, hq4⟩ : ∃ q, decide ((64 : Int) < (k : Int)) = q := ⟨_, rfl⟩
  have HQ := Lib.hid (show (q1 || q2 || q3 || q4) = true by
    rw [← hq1, ← hq2, ← hq3, ← hq4]
    simp only [Bool.or_eq_true, decide_eq_true_eq]
    omega)
  clear h
  cases q1
  · cases q2
    · cases q3
      · cases q4
        · exact absurd HQ.out (by decide)
        · have h9 := of_decide_eq_true hq4
          have h8 := of_decide_eq_false hq3
          have h7 := of_decide_eq_false hq2
          have h6 := of_decide_eq_false hq1
          go_enter Try.func34, Try.ntmps34
          go_wp2
          go_ret
          exact ⟨rfl, rfl⟩
      · have h8 := of_decide_eq_true hq3
        have h7 := of_decide_eq_false hq2
        have h6 := of_decide_eq_false hq1
        go_enter Try.func34, Try.ntmps34
        go_wp2
        go_ret
        exact ⟨rfl, rfl⟩
    · have h7 := of_decide_eq_true hq2
      have h6 := of_decide_eq_false hq1
      go_enter Try.func34, Try.ntmps34
      go_wp2
      go_ret
      exact ⟨rfl, rfl⟩
  · have h6 := of_decide_eq_true hq1
    go_enter Try.func34, Try.ntmps34
    go_wp2
    go_ret
    exact ⟨rfl, rfl⟩
set_option maxRecDepth 100000 in
set_option maxHeartbeats 8000000 in
theorem rset_any (w : World) (b : Nat) (p : Dp) (h : DpAt w b p) (s : Nat) (hs : s < 40) (ad : Addr) (k c : Nat) (hk1 : 1 ≤ k) (hk2 : k ≤ 64) (ys : List Int) (hy : Bytes ys) (hyl : ys.length = k)
    (hr : ∀ w', Fr (fun x => x = b) w w' → IR w' w'.heap.size .u8 (.slice (some ad) k c) ys) (full : Bool) (hfull : full = true ↔ 448 < 16 + 4 * nD p s + allF p.S (s : Int) 40 + k) (hok : full = false → OkD p s k) :
    Calls Try.prog 34 #[.pointer (some ⟨b, 0, none⟩), .int .i64 (s : Int), .slice (some ad) k c] w fun e w' => e = .returned (.int .i64 (if full = true then 92 else 0)) ∧ DpAt w' b (if full = true then p else setD p s ys) ∧ Fr (fun x => x = b) w w' := by
  have CA := Lib.hid (rcount w b p h)
  have AA := Lib.hid (rall w b p h (s : Int))
  have hC := trimF_le p.S 40
  have hA := allF_le p.S (s : Int) h.ok.S 40 (Nat.le_refl _)
  have HP := Lib.hid h
  have HR := Lib.hid hr
  have HY := Lib.hid hy
  have HYL := Lib.hid hyl
  have HOK := Lib.hid hok
  have HS4 := Lib.hid hs
  obtain ⟨C, hCe⟩ : ∃ C, C = trimF p.S 40 := ⟨_, rfl⟩
  obtain ⟨al, hal⟩ : ∃ C, C = allF p.S (s : Int) 40 := ⟨_, rfl⟩
  obtain ⟨n, hn⟩ : ∃ n, n = nD p s := ⟨_, rfl⟩
  have HNM := Lib.hid (show n = max C (s + 1) by rw [hn, hCe]; rfl)
  have HNN := Lib.hid hn
  have hn40 : n ≤ 40 := by rw [hn]; unfold nD; omega
  obtain ⟨F4, hF4⟩ : ∃ x : Int, x = 4 * (n : Int) := ⟨_, rfl⟩
  obtain ⟨E1, hE1⟩ : ∃ x : Int, x = 16 + F4 := ⟨_, rfl⟩
  obtain ⟨E2, hE2⟩ : ∃ x : Int, x = E1 + (al : Int) := ⟨_, rfl⟩
  obtain ⟨E3, hE3⟩ : ∃ x : Int, x = E2 + (k : Int) := ⟨_, rfl⟩
  have HFU := Lib.hid (show (448 : Int) < E3 ↔ full = true by rw [hfull, hE3, hE2, hE1, hF4, hn, hal]; omega)
  rw [← hCe] at CA hC
  rw [← hal] at AA hA
  have HW1 := Lib.hid (show (wrap64 (4 * (n : Int)) = F4 ∧ wrap64 (16 + F4) = E1 ∧ wrap64 (E1 + (al : Int)) = E2 ∧ wrap64 (E2 + (k : Int)) = E3) ∧ wrap64 ((s : Int) + 1) = (s : Int) + 1 from by
    refine ⟨⟨by rw [hF4]; exact wrap64_in _ (by omega), by rw [hE1, hF4]; exact wrap64_in _ (by omega), by rw [hE2, hE1, hF4]; exact wrap64_in _ (by omega), by rw [hE3, hE2, hE1, hF4]; exact wrap64_in _ (by omega)⟩, wrap64_in _ (by omega)⟩)
  have HF4 := Lib.hid hF4
  have h6 : ¬ (s : Int) < 0 := by omega
  have h7 : ¬ (39 : Int) < (s : Int) := by omega
  have h8 : ¬ (k : Int) < 1 := by omega
  have h9 : ¬ (64 : Int) < (k : Int) := by omega
  have HN40 := Lib.hid hn40
  clear h hr hy hyl hok hfull hA hCe hal hn hF4 hE1 hE2 hE3 hn40
  go_enter Try.func34, Try.ntmps34
  go_upto_region 3 with fail
  go_cut [7] (fun v wx => v = .int .i64 n ∧ w = wx)
  case first =>
    have ws1 := HW1.out.2
    by_cases hm : C < s + 1
    · have hmi : (C : Int) < (s : Int) + 1 := by omega
      go_wp2_with fail
      all_goals ((with_reducible refine CA.out.mono ?_); rintro e wx ⟨rfl, rfl⟩; go_wp2; all_goals (go_meet; refine ⟨congrArg (Value.int .i64) ?_, rfl⟩; have := HNM.out; omega))
    · have hmi : ¬ (C : Int) < (s : Int) + 1 := by omega
      go_wp2_with fail
      all_goals ((with_reducible refine CA.out.mono ?_); rintro e wx ⟨rfl, rfl⟩; go_wp2; all_goals (go_meet; refine ⟨congrArg (Value.int .i64) ?_, rfl⟩; have := HNM.out; omega))
  case rest =>
    obtain ⟨rfl, rfl⟩ := hcut
    obtain ⟨x1, x2, x3, x4⟩ := HW1.out.1
    go_wp2_with fail
    (with_reducible refine AA.out.mono ?_)
    rintro e wx ⟨rfl, rfl⟩
    cases full
    case true =>
      have hrm : (448 : Int) < E3 := HFU.out.2 rfl
      go_wp2
      go_ret
      exact ⟨rfl, HP.out, Fr.refl _ _⟩
    case false =>
    have hrm : ¬ (448 : Int) < E3 := fun h1 => by have := HFU.out.1 h1; cases this
    have OK := Lib.hid (HOK.out rfl)
    go_upto_region 6 with fail
    clear x1 x2 x3 x4 h6 h7 h8 h9 hrm HOK HFU AA CA hC
    obtain ⟨l, hl⟩ : ∃ l, l = p.S s := ⟨_, rfl⟩
    have kS : w.cell? ⟨b, 42 + s, none⟩ = some (.int .i64 (l : Int)) := by rw [hl]; exact HP.out.s s HS4.out
    have HL := Lib.hid hl
    have hs4 : (s : Int) < 40 := by have := HS4.out; omega
    obtain ⟨qk, hqk⟩ : ∃ q, ((l : Int) != (k : Int)) = q := ⟨_, rfl⟩
    have HQK := Lib.hid (show qk = true ↔ l ≠ k by rw [← hqk, bne_iff_ne]; omega)
    obtain ⟨q, hq⟩ : ∃ q, q = qD p s k := ⟨_, rfl⟩
    have HQ := Lib.hid hq
    clear hl hq
    go_cut [49] (fun v wx => v = .bool qk ∧ w = wx)
    case first =>
      go_wp2
      go_meet
      exact ⟨rfl, rfl⟩
    case rest =>
    obtain ⟨rfl, rfl⟩ := hcut
    clear kS hqk
    rename_i hK1
    refine hK1 _ _ ?_
    go_cut [] (fun wx => Hid (DpAt wx b q) ∧ Hid (Fr (fun x => x = b) w wx))
    case first =>
      cases qk
      case false =>
        have HE := Lib.hid (show DpAt w b q by
          rw [HQ.out]; unfold qD
          have : ¬ l ≠ k := fun e => by have := HQK.out.2 e; cases this
          rw [if_pos (by rw [← HL.out]; omega)]
          exact HP.out)
        go_wp2
        go_meet
        exact ⟨HE, Lib.hid (Fr.refl _ _)⟩
      case true =>
        have hne : p.S s ≠ k := by rw [← HL.out]; exact HQK.out.1 rfl
        have CL := Lib.hid (rclear_some w b p HP.out s HS4.out OK.out.fit)
        have HTG := Lib.hid (OK.out.tog hne)
        have HLY := Lib.hid (OK.out.lay hne)
        have HGD := Lib.hid (show gD p s k = decide ((lowF (aD p s).O (aD p s).S 40 : Int) - 16 - 4 * (n : Int) < (k : Int)) by unfold gD; rw [HNN.out])
        have HBD := Lib.hid (show bD p s k = if gD p s k = true then togD (aD p s) else aD p s from rfl)
        have HQ2 := Lib.hid (show q = ((bD p s k).setO s (lowF (bD p s k).O (bD p s k).S 40 - k)).setS s k by rw [HQ.out]; unfold qD; rw [if_neg hne]; rfl)
        obtain ⟨pa, hpa⟩ : ∃ pa, pa = aD p s := ⟨_, rfl⟩
        obtain ⟨q0, hq0⟩ : ∃ q0, q0 = bD p s k := ⟨_, rfl⟩
        obtain ⟨gg, hgg⟩ : ∃ g, g = gD p s k := ⟨_, rfl⟩
        rw [← hpa] at CL HTG HGD HBD
        rw [← hq0] at HLY HBD HQ2
        rw [← hgg] at HTG HGD HBD
        clear hne hpa hq0 hgg OK HQ HQK
        go_wp2_with fail
        (with_reducible refine CL.out.mono ?_)
        rintro e w2 ⟨rfl, p2, f2⟩
        have D2 := Lib.hid p2
        have F2 := Lib.hid f2
        have LW := Lib.hid (rlow w2 b pa p2)
        have hlo := lowF_le pa.O pa.S 40
        obtain ⟨l0, hl0⟩ : ∃ l, l = lowF pa.O pa.S 40 := ⟨_, rfl⟩
        rw [← hl0] at LW hlo HGD
        obtain ⟨A1, hA1⟩ : ∃ x : Int, x = (l0 : Int) - 16 := ⟨_, rfl⟩
        obtain ⟨A2, hA2⟩ : ∃ x : Int, x = A1 - F4 := ⟨_, rfl⟩
        have hn4 := HN40.out
        have hf4 := HF4.out
        obtain ⟨y1, y2, y3⟩ : wrap64 ((l0 : Int) - 16) = A1 ∧ wrap64 (4 * (n : Int)) = F4 ∧ wrap64 (A1 - F4) = A2 := ⟨by rw [hA1]; exact wrap64_in _ (by omega), by rw [hf4]; exact wrap64_in _ (by omega), by rw [hA2, hA1, hf4]; exact wrap64_in _ (by omega)⟩
        have dgg : decide (A2 < (k : Int)) = gg := by rw [HGD.out, hA2, hA1, hf4]
        clear p2 f2 hlo hn4 hf4 hl0 hA1 hA2 CL HGD
        go_upto_region 8 with fail
        go_cut [61] (fun v wx => v = .bool gg ∧ w2 = wx)
        case first =>
          go_wp2_with fail
          (with_reducible refine LW.out.mono ?_)
          rintro e wx ⟨rfl, rfl⟩
          go_wp2
          go_meet
          first | exact ⟨rfl, rfl⟩ | (refine ⟨congrArg Value.bool ?_, rfl⟩; rw [← dgg]; rfl)
        case rest =>
        obtain ⟨rfl, rfl⟩ := hcut
        clear y1 y2 y3 dgg LW
        rename_i hK2
        refine hK2 _ _ ?_
        go_cut [] (fun wx => Hid (DpAt wx b q0) ∧ Hid (Fr (fun x => x = b) w wx))
        case first =>
          cases gg
          case false =>
            have D3 := Lib.hid (show DpAt w2 b q0 by rw [HBD.out, if_neg (by decide)]; exact D2.out)
            go_wp2
            go_meet
            exact ⟨D3, F2⟩
          case true =>
            obtain ⟨t1, t2⟩ := HTG.out rfl
            have TG := Lib.hid (rtogether w2 b pa D2.out t1 t2)
            rw [show togD pa = q0 by rw [HBD.out, if_pos rfl]] at TG
            clear t1 t2
            go_wp2_with fail
            (with_reducible refine TG.out.mono ?_)
            rintro e w3 ⟨rfl, p3, f3⟩
            have D3 := Lib.hid p3
            have F3 := Lib.hid (F2.out.trans f3)
            clear p3 f3
            go_wp2
            go_meet
            exact ⟨D3, F3⟩
        case rest =>
        obtain ⟨DB, FB⟩ := hcut
        obtain ⟨wr, rfl⟩ : ∃ w', w' = wc := ⟨wc, rfl⟩
        clear HTG HBD D2 F2
        have LWB := Lib.hid (fun W (hb : Below wr.heap.size wr W) => rlow W b q0 (DB.out.later hb))
        have hlo := lowF_le q0.O q0.S 40
        obtain ⟨lo, hlo'⟩ : ∃ l, l = lowF q0.O q0.S 40 := ⟨_, rfl⟩
        rw [← hlo'] at LWB hlo HLY HQ2
        obtain ⟨m, hm⟩ : ∃ m, m = lo - k := ⟨_, rfl⟩
        have hly := HLY.out
        have HWM := Lib.hid (show IntKind.i64.wrap ((lo : Int) - (k : Int)) = (m : Int) ∧ wrap64 ((lo : Int) - (k : Int)) = (m : Int) from ⟨by rw [IntWalk.i64_in _ (by omega)]; omega, by rw [wrap64_in _ (by omega)]; omega⟩)
        have HM8 := Lib.hid (show m ≤ 65535 by omega)
        rw [← hm] at HQ2
        clear hlo hlo' hm hly HLY
        go_upto_region 10 with fail
        refine wp_region_end (by kernel_rfl) (by kernel_rfl) 10 (fun W W' => Fr (fun x => x = b) W W') (fun W => DpAt W b (q0.setO s m) ∧ Fr (fun x => x = b) wr W) [(fun v _ => v = .pointer (some ⟨b, 0, none⟩)), (fun v _ => v = .int .i64 s), (fun v _ => v = .pointer (some ⟨b, 0, none⟩)), (fun v _ => v = .int .i64 lo), (fun v _ => v = .slice (some ad) k c), (fun v _ => v = .int .i64 k), (fun v _ => v = .int .i64 m), (fun v _ => v = .pointer (some ⟨b, 0, none⟩)), (fun v _ => v = .pointer (some ⟨b, 2, none⟩)), (fun v _ => v = .pointer (some ⟨b, 2 + s, none⟩)), (fun v _ => v = undef)] (fun W W' hb h => ⟨h.1.later hb, h.2.below hb⟩) ?_ (fun vals => ?_) (fun vals W hfin hall => ?_) (by decide)
        · intro j v W W' hj hr h
          match j, hj, h with
          | 0, _, h => exact h
          | 1, _, h => exact h
          | 2, _, h => exact h
          | 3, _, h => exact h
          | 4, _, h => exact h
          | 5, _, h => exact h
          | 6, _, h => exact h
          | 7, _, h => exact h
          | 8, _, h => exact h
          | 9, _, h => exact h
          | 10, hj, _ => exact absurd rfl hj
          | _ + 11, _, _ => trivial
        · simp only [ObL, Act.put, List.setIfInBounds_toArray, List.set_cons_succ, List.set_cons_zero]
          refine ⟨?_, ?_, ?_, ?_, ?_, ?_, ?_, ?_, ?_, ?_, ?_, trivial⟩
          · intro L W hL hk hC hw
            clear hw
            clear hL hC hk
            refine step_plain rfl ?_
            go_simp
            first | exact ⟨Re.same (by decide), Fe.val (by decide) rfl rfl⟩ | exact ⟨_, rfl, Re.same (by decide), Fe.val (by decide) rfl rfl⟩
          · intro L W hL hk hC hw
            clear hw
            clear hL hC hk
            refine step_plain rfl ?_
            go_simp
            first | exact ⟨Re.same (by decide), Fe.val (by decide) rfl rfl⟩ | exact ⟨_, rfl, Re.same (by decide), Fe.val (by decide) rfl rfl⟩
          · intro L W hL hk hC hw
            clear hw
            clear hL hC hk
            refine step_plain rfl ?_
            go_simp
            first | exact ⟨Re.same (by decide), Fe.val (by decide) rfl rfl⟩ | exact ⟨_, rfl, Re.same (by decide), Fe.val (by decide) rfl rfl⟩
          · intro L W hL hk hC hw
            have f2 : vals 2 = .pointer (some ⟨b, 0, none⟩) := Fe.get (hw ⟨2, .data⟩ (by simp) rfl) (by decide)
            clear hw
            have hb := hC (hL.not_yet hk 10 8 (by decide +kernel))
            have LWW := Lib.hid (LWB.out W hb)
            clear hL hC hk hb
            refine step_plain rfl ?_
            go_simp
            (with_reducible refine LWW.out.mono ?_)
            rintro e w8 ⟨rfl, rfl⟩
            first | exact ⟨Re.same (by decide), Fe.val (by decide) rfl rfl⟩ | exact ⟨_, rfl, Re.same (by decide), Fe.val (by decide) rfl rfl⟩
          · intro L W hL hk hC hw
            clear hw
            clear hL hC hk
            refine step_plain rfl ?_
            go_simp
            first | exact ⟨Re.same (by decide), Fe.val (by decide) rfl rfl⟩ | exact ⟨_, rfl, Re.same (by decide), Fe.val (by decide) rfl rfl⟩
          · intro L W hL hk hC hw
            have f4 : vals 4 = .slice (some ad) k c := Fe.get (hw ⟨4, .data⟩ (by simp) rfl) (by decide)
            clear hw
            clear hL hC hk
            refine step_plain rfl ?_
            go_simp
            first | exact ⟨Re.same (by decide), Fe.val (by decide) rfl rfl⟩ | exact ⟨_, rfl, Re.same (by decide), Fe.val (by decide) rfl rfl⟩
          · intro L W hL hk hC hw
            have f3 : vals 3 = .int .i64 lo := Fe.get (hw ⟨3, .data⟩ (by simp) rfl) (by decide)
            have f5 : vals 5 = .int .i64 k := Fe.get (hw ⟨5, .data⟩ (by simp) rfl) (by decide)
            clear hw
            have w1 := HWM.out.1
            have w2 := HWM.out.2
            clear hL hC hk
            refine step_plain rfl ?_
            go_simp
            first | exact ⟨Re.same (by decide), Fe.val (by decide) rfl (by first | rfl | rw [w1] | rw [w2])⟩ | exact ⟨_, rfl, Re.same (by decide), Fe.val (by decide) rfl (by first | rfl | rw [w1] | rw [w2])⟩
          · intro L W hL hk hC hw
            have f0 : vals 0 = .pointer (some ⟨b, 0, none⟩) := Fe.get (hw ⟨0, .data⟩ (by simp) rfl) (by decide)
            clear hw
            clear hL hC hk
            refine step_plain rfl ?_
            go_simp
            first | exact ⟨Re.same (by decide), Fe.val (by decide) rfl rfl⟩ | exact ⟨_, rfl, Re.same (by decide), Fe.val (by decide) rfl rfl⟩
          · intro L W hL hk hC hw
            have f7 : vals 7 = .pointer (some ⟨b, 0, none⟩) := Fe.get (hw ⟨7, .data⟩ (by simp) rfl) (by decide)
            clear hw
            clear hL hC hk
            refine step_plain rfl ?_
            go_simp
            first | exact ⟨Re.same (by decide), Fe.val (by decide) rfl rfl⟩ | exact ⟨_, rfl, Re.same (by decide), Fe.val (by decide) rfl rfl⟩
          · intro L W hL hk hC hw
            have f8 : vals 8 = .pointer (some ⟨b, 2, none⟩) := Fe.get (hw ⟨8, .data⟩ (by simp) rfl) (by decide)
            have f1 : vals 1 = .int .i64 s := Fe.get (hw ⟨1, .data⟩ (by simp) rfl) (by decide)
            clear hw
            have h1 : (s : Int) < 40 := by have := HS4.out; omega
            clear hL hC hk
            refine step_plain rfl ?_
            go_simp
            first | exact ⟨Re.same (by decide), Fe.val (by decide) rfl rfl⟩ | exact ⟨_, rfl, Re.same (by decide), Fe.val (by decide) rfl rfl⟩
          · intro L W hL hk hC hw
            have f9 : vals 9 = .pointer (some ⟨b, 2 + s, none⟩) := Fe.get (hw ⟨9, .data⟩ (by simp) rfl) (by decide)
            have f6 : vals 6 = .int .i64 m := Fe.get (hw ⟨6, .data⟩ (by simp) rfl) (by decide)
            clear hw
            have hb := hC hk
            have dg := DB.out.later hb
            have kc := dg.o s HS4.out
            have kf := dg.box.frozen (2 + s)
            have Z1 := Lib.hid (dg.setO s m HS4.out HM8.out)
            have Z2 := Lib.hid (Fr.setCell (Fr.refl (fun x => x = b) W) (p := ⟨b, 2 + s, none⟩) (.inl rfl) (.int .i64 m))
            have Z3 := Lib.hid ((Fr.of_below (S := fun x => x = b) hb).trans Z2.out)
            clear hL hC hk hb dg
            refine step_plain rfl ?_
            go_simp
            first | exact ⟨_, rfl, Re.last Z2.out, Fe.last ⟨Z1.out, Z3.out⟩⟩ | exact ⟨Re.last Z2.out, Fe.last ⟨Z1.out, Z3.out⟩⟩ | exact ⟨Re.last Z2.out, undef, Fe.last ⟨Z1.out, Z3.out⟩⟩ | exact ⟨Re.last Z2.out, _, Fe.last ⟨Z1.out, Z3.out⟩⟩
        · simp only [TL, Act.put, List.setIfInBounds_toArray, List.set_cons_succ, List.set_cons_zero]
          obtain ⟨hD9, hF9⟩ := hfin
          have D9 := Lib.hid hD9
          have F9 := Lib.hid (FB.out.trans hF9)
          have kS9 := hD9.s s HS4.out
          have kf := hD9.box.frozen (42 + s)
          have DQ := Lib.hid (show DpAt (W.setCell ⟨b, 42 + s, none⟩ (.int .i64 k)) b q by rw [HQ2.out]; exact hD9.setS s k HS4.out (by omega))
          have FQ := Lib.hid (Fr.setCell F9.out (p := ⟨b, 42 + s, none⟩) (.inl rfl) (.int .i64 k))
          clear hall hD9 hF9 D9 F9
          go_wp2
          go_meet
          exact ⟨DQ, FQ⟩
    case rest =>
    obtain ⟨DB0, FB0⟩ := hcut
    obtain ⟨wm, rfl⟩ : ∃ w', w' = wc := ⟨wc, rfl⟩
    have HSD := Lib.hid (show setD p s ys = datD q (q.O s) ys k by rw [HQ.out]; unfold setD; rw [HYL.out])
    obtain ⟨o, ho⟩ : ∃ o, o = q.O s := ⟨_, rfl⟩
    have HOE := Lib.hid ho
    have HO8 := Lib.hid (show o + k ≤ 448 from by
      rw [ho, HQ.out]
      unfold qD
      by_cases e : p.S s = k
      · rw [if_pos e]
        have := OK.out.fit (by omega)
        omega
      · rw [if_neg e]
        have h1 := OK.out.lay e
        have h2 := lowF_le (bD p s k).O (bD p s k).S 40
        have h3 : (cD p s k).O s = lowF (bD p s k).O (bD p s k).S 40 - k := by
          show (if s = s then lowF (bD p s k).O (bD p s k).S 40 - k else (bD p s k).O s) = _
          rw [if_pos rfl]
        rw [h3]; omega)
    rw [← ho] at HSD
    have hk64 := Lib.hid hk2
    clear ho OK HQ HQK HL
    go_wp2
    go_loopw [8] (fun jv wr => ∃ j : Nat, j ≤ k ∧ jv = .int .i64 j ∧ Hid (DpAt wr b (datD q o ys j)) ∧ Hid (Fr (fun x => x = b) w wr)) (fun jv _ => k - (intOf jv).toNat)
    case atStart => exact ⟨0, Nat.zero_le _, rfl, Lib.hid (by rw [datD_zero]; exact DB0.out), FB0⟩
    case round =>
      obtain ⟨j, hj, rfl, HD, HFW⟩ := hrel
      clear DB0 FB0
      by_cases hlt : j < k
      · obtain ⟨gA, oA, e, hgl, hcu⟩ := (HR.out wr HFW.out).index j hlt
        injection e with e
        subst e
        have KC0 := hcu
        obtain ⟨ch, hch⟩ : ∃ c, c = ys.getD j 0 := ⟨_, rfl⟩
        rw [← hch] at KC0
        have KC := Lib.hid KC0
        have HGL := Lib.hid hgl
        have HC8 := Lib.hid (show 0 ≤ ch ∧ ch ≤ 255 by rw [hch]; exact HY.out.at_ j)
        obtain ⟨m, hm⟩ : ∃ m, m = o + j := ⟨_, rfl⟩
        have HM8 := Lib.hid (show m < 448 by have := HO8.out; omega)
        have HWM := Lib.hid (show IntKind.i64.wrap ((o : Int) + (j : Int)) = (m : Int) ∧ wrap64 ((o : Int) + (j : Int)) = (m : Int) from by
          have := HO8.out
          exact ⟨by rw [IntWalk.i64_in _ (by omega)]; omega, by rw [wrap64_in _ (by omega)]; omega⟩)
        have HJK := Lib.hid hlt
        obtain ⟨q1, hq1⟩ : ∃ q1, q1 = datD q o ys j := ⟨_, rfl⟩
        have DB := Lib.hid (show DpAt wr b q1 by rw [hq1]; exact HD.out)
        have HNX := Lib.hid (show q1.setB m ch = datD q o ys (j + 1) by rw [hq1, hm, hch]; exact datD_step q o ys j)
        have HBL := Lib.hid DB.out.box.lt
        have KO := Lib.hid (show wr.cell? ⟨b, 2 + s, none⟩ = some (.int .i64 (o : Int)) by
          have := DB.out.o s HS4.out
          rw [show q1.O s = o by rw [hq1, HOE.out]; rfl] at this
          exact this)
        have dj : decide ((j : Int) < (k : Int)) = true := by simp; omega
        have dj' : decide (j < k) = true := by simp; omega
        clear hj hlt hgl hcu KC0 hch hm hq1 HD
        go_upto_region 15 with fail
        clear dj dj'
        refine wp_region_end (by kernel_rfl) (by kernel_rfl) 16 (fun W W' => Fr (fun x => x = b) W W') (fun W => DpAt W b (q1.setB m ch) ∧ Fr (fun x => x = b) wr W) [(fun v _ => v = .pointer (some ⟨b, 0, none⟩)), (fun v _ => v = .pointer (some ⟨b, 0, none⟩)), (fun v _ => v = .int .i64 s), (fun v _ => v = .pointer (some ⟨b, 0, none⟩)), (fun v _ => v = .pointer (some ⟨b, 2, none⟩)), (fun v _ => v = .pointer (some ⟨b, 2 + s, none⟩)), (fun v _ => v = .int .i64 o), (fun v _ => v = .int .i64 j), (fun v _ => v = .int .i64 m), (fun v _ => v = .slice (some ⟨gA, oA, none⟩) k c), (fun v _ => v = .int .i64 j), (fun v _ => v = .pointer (some ⟨gA, oA + j, none⟩)), (fun v _ => v = .int .u8 ch), (fun v _ => v = .pointer (some ⟨b, 0, none⟩)), (fun v _ => v = .pointer (some ⟨b, 82, none⟩)), (fun v _ => v = .pointer (some ⟨b, 82 + m, none⟩)), (fun v _ => v = undef)] (fun W W' hb h => ⟨h.1.later hb, h.2.below hb⟩) ?_ (fun vals => ?_) (fun vals W hfin hall => ?_) (by decide)
        · intro j v W W' hj hr h
          match j, hj, h with
          | 0, _, h => exact h
          | 1, _, h => exact h
          | 2, _, h => exact h
          | 3, _, h => exact h
          | 4, _, h => exact h
          | 5, _, h => exact h
          | 6, _, h => exact h
          | 7, _, h => exact h
          | 8, _, h => exact h
          | 9, _, h => exact h
          | 10, _, h => exact h
          | 11, _, h => exact h
          | 12, _, h => exact h
          | 13, _, h => exact h
          | 14, _, h => exact h
          | 15, _, h => exact h
          | 16, hj, _ => exact absurd rfl hj
          | _ + 17, _, _ => trivial
        · simp only [ObL, Act.put, List.setIfInBounds_toArray, List.set_cons_succ, List.set_cons_zero]
          refine ⟨?_, ?_, ?_, ?_, ?_, ?_, ?_, ?_, ?_, ?_, ?_, ?_, ?_, ?_, ?_, ?_, ?_, trivial⟩
          · intro L W hL hk hC hw
            clear hw
            clear hL hC hk
            refine step_plain rfl ?_
            go_simp
            first | exact ⟨Re.same (by decide), Fe.val (by decide) rfl rfl⟩ | exact ⟨_, rfl, Re.same (by decide), Fe.val (by decide) rfl rfl⟩
          · intro L W hL hk hC hw
            clear hw
            clear hL hC hk
            refine step_plain rfl ?_
            go_simp
            first | exact ⟨Re.same (by decide), Fe.val (by decide) rfl rfl⟩ | exact ⟨_, rfl, Re.same (by decide), Fe.val (by decide) rfl rfl⟩
          · intro L W hL hk hC hw
            clear hw
            clear hL hC hk
            refine step_plain rfl ?_
            go_simp
            first | exact ⟨Re.same (by decide), Fe.val (by decide) rfl rfl⟩ | exact ⟨_, rfl, Re.same (by decide), Fe.val (by decide) rfl rfl⟩
          · intro L W hL hk hC hw
            have f1 : vals 1 = .pointer (some ⟨b, 0, none⟩) := Fe.get (hw ⟨1, .data⟩ (by simp) rfl) (by decide)
            clear hw
            clear hL hC hk
            refine step_plain rfl ?_
            go_simp
            first | exact ⟨Re.same (by decide), Fe.val (by decide) rfl rfl⟩ | exact ⟨_, rfl, Re.same (by decide), Fe.val (by decide) rfl rfl⟩
          · intro L W hL hk hC hw
            have f3 : vals 3 = .pointer (some ⟨b, 0, none⟩) := Fe.get (hw ⟨3, .data⟩ (by simp) rfl) (by decide)
            clear hw
            clear hL hC hk
            refine step_plain rfl ?_
            go_simp
            first | exact ⟨Re.same (by decide), Fe.val (by decide) rfl rfl⟩ | exact ⟨_, rfl, Re.same (by decide), Fe.val (by decide) rfl rfl⟩
          · intro L W hL hk hC hw
            have f4 : vals 4 = .pointer (some ⟨b, 2, none⟩) := Fe.get (hw ⟨4, .data⟩ (by simp) rfl) (by decide)
            have f2 : vals 2 = .int .i64 s := Fe.get (hw ⟨2, .data⟩ (by simp) rfl) (by decide)
            clear hw
            have h1 : (s : Int) < 40 := by have := HS4.out; omega
            clear hL hC hk
            refine step_plain rfl ?_
            go_simp
            first | exact ⟨Re.same (by decide), Fe.val (by decide) rfl rfl⟩ | exact ⟨_, rfl, Re.same (by decide), Fe.val (by decide) rfl rfl⟩
          · intro L W hL hk hC hw
            have f5 : vals 5 = .pointer (some ⟨b, 2 + s, none⟩) := Fe.get (hw ⟨5, .data⟩ (by simp) rfl) (by decide)
            clear hw
            have hb := hC (hL.not_yet hk 16 8 (by decide +kernel))
            have kc : W.cell? ⟨b, 2 + s, none⟩ = some (.int .i64 o) := (hb.cell HBL.out).trans KO.out
            clear hL hC hk hb
            refine step_plain rfl ?_
            go_simp
            first | exact ⟨Re.same (by decide), Fe.val (by decide) rfl rfl⟩ | exact ⟨_, rfl, Re.same (by decide), Fe.val (by decide) rfl rfl⟩
          · intro L W hL hk hC hw
            clear hw
            clear hL hC hk
            refine step_plain rfl ?_
            go_simp
            first | exact ⟨Re.same (by decide), Fe.val (by decide) rfl rfl⟩ | exact ⟨_, rfl, Re.same (by decide), Fe.val (by decide) rfl rfl⟩
          · intro L W hL hk hC hw
            have f6 : vals 6 = .int .i64 o := Fe.get (hw ⟨6, .data⟩ (by simp) rfl) (by decide)
            have f7 : vals 7 = .int .i64 j := Fe.get (hw ⟨7, .data⟩ (by simp) rfl) (by decide)
            clear hw
            have w1 := HWM.out.1
            have w2 := HWM.out.2
            clear hL hC hk
            refine step_plain rfl ?_
            go_simp
            first | exact ⟨Re.same (by decide), Fe.val (by decide) rfl (by first | rfl | rw [w1] | rw [w2])⟩ | exact ⟨_, rfl, Re.same (by decide), Fe.val (by decide) rfl (by first | rfl | rw [w1] | rw [w2])⟩
          · intro L W hL hk hC hw
            clear hw
            clear hL hC hk
            refine step_plain rfl ?_
            go_simp
            first | exact ⟨Re.same (by decide), Fe.val (by decide) rfl rfl⟩ | exact ⟨_, rfl, Re.same (by decide), Fe.val (by decide) rfl rfl⟩
          · intro L W hL hk hC hw
            clear hw
            clear hL hC hk
            refine step_plain rfl ?_
            go_simp
            first | exact ⟨Re.same (by decide), Fe.val (by decide) rfl rfl⟩ | exact ⟨_, rfl, Re.same (by decide), Fe.val (by decide) rfl rfl⟩
          · intro L W hL hk hC hw
            have f9 : vals 9 = .slice (some ⟨gA, oA, none⟩) k c := Fe.get (hw ⟨9, .data⟩ (by simp) rfl) (by decide)
            have f10 : vals 10 = .int .i64 j := Fe.get (hw ⟨10, .data⟩ (by simp) rfl) (by decide)
            clear hw
            have h1 : j < k := HJK.out
            have h2 : (j : Int) < (k : Int) := by have := HJK.out; omega
            clear hL hC hk
            refine step_plain rfl ?_
            go_simp
            first | exact ⟨Re.same (by decide), Fe.val (by decide) rfl rfl⟩ | exact ⟨_, rfl, Re.same (by decide), Fe.val (by decide) rfl rfl⟩
          · intro L W hL hk hC hw
            have f11 : vals 11 = .pointer (some ⟨gA, oA + j, none⟩) := Fe.get (hw ⟨11, .data⟩ (by simp) rfl) (by decide)
            clear hw
            have hb := hC (hL.not_yet hk 16 8 (by decide +kernel))
            have kc : W.cell? ⟨gA, oA + j, none⟩ = some (.int .u8 ch) := (hb.cell HGL.out).trans KC.out
            clear hL hC hk hb
            refine step_plain rfl ?_
            go_simp
            first | exact ⟨Re.same (by decide), Fe.val (by decide) rfl rfl⟩ | exact ⟨_, rfl, Re.same (by decide), Fe.val (by decide) rfl rfl⟩
          · intro L W hL hk hC hw
            have f0 : vals 0 = .pointer (some ⟨b, 0, none⟩) := Fe.get (hw ⟨0, .data⟩ (by simp) rfl) (by decide)
            clear hw
            clear hL hC hk
            refine step_plain rfl ?_
            go_simp
            first | exact ⟨Re.same (by decide), Fe.val (by decide) rfl rfl⟩ | exact ⟨_, rfl, Re.same (by decide), Fe.val (by decide) rfl rfl⟩
          · intro L W hL hk hC hw
            have f13 : vals 13 = .pointer (some ⟨b, 0, none⟩) := Fe.get (hw ⟨13, .data⟩ (by simp) rfl) (by decide)
            clear hw
            clear hL hC hk
            refine step_plain rfl ?_
            go_simp
            first | exact ⟨Re.same (by decide), Fe.val (by decide) rfl rfl⟩ | exact ⟨_, rfl, Re.same (by decide), Fe.val (by decide) rfl rfl⟩
          · intro L W hL hk hC hw
            have f14 : vals 14 = .pointer (some ⟨b, 82, none⟩) := Fe.get (hw ⟨14, .data⟩ (by simp) rfl) (by decide)
            have f8 : vals 8 = .int .i64 m := Fe.get (hw ⟨8, .data⟩ (by simp) rfl) (by decide)
            clear hw
            have h1 : (m : Int) < 448 := by have := HM8.out; omega
            clear hL hC hk
            refine step_plain rfl ?_
            go_simp
            first | exact ⟨Re.same (by decide), Fe.val (by decide) rfl rfl⟩ | exact ⟨_, rfl, Re.same (by decide), Fe.val (by decide) rfl rfl⟩
          · intro L W hL hk hC hw
            have f15 : vals 15 = .pointer (some ⟨b, 82 + m, none⟩) := Fe.get (hw ⟨15, .data⟩ (by simp) rfl) (by decide)
            have f12 : vals 12 = .int .u8 ch := Fe.get (hw ⟨12, .data⟩ (by simp) rfl) (by decide)
            clear hw
            have hb := hC hk
            have dg := DB.out.later hb
            have kc := dg.bb m HM8.out
            have kf := dg.box.frozen (82 + m)
            have Z1 := Lib.hid (dg.setB m ch HM8.out HC8.out)
            have Z2 := Lib.hid (Fr.setCell (Fr.refl (fun x => x = b) W) (p := ⟨b, 82 + m, none⟩) (.inl rfl) (.int .u8 ch))
            have Z3 := Lib.hid ((Fr.of_below (S := fun x => x = b) hb).trans Z2.out)
            clear hL hC hk hb dg
            refine step_plain rfl ?_
            go_simp
            first | exact ⟨_, rfl, Re.last Z2.out, Fe.last ⟨Z1.out, Z3.out⟩⟩ | exact ⟨Re.last Z2.out, Fe.last ⟨Z1.out, Z3.out⟩⟩ | exact ⟨Re.last Z2.out, undef, Fe.last ⟨Z1.out, Z3.out⟩⟩ | exact ⟨Re.last Z2.out, _, Fe.last ⟨Z1.out, Z3.out⟩⟩
        · simp only [TL, Act.put, List.setIfInBounds_toArray, List.set_cons_succ, List.set_cons_zero]
          obtain ⟨hD9, hF9⟩ := hfin
          rw [HNX.out] at hD9
          have D9 := Lib.hid hD9
          have F9 := Lib.hid (HFW.out.trans hF9)
          clear hall hD9 hF9
          have hk9 : j < 64 := by have := HJK.out; have := hk64.out; omega
          go_wp2
          go_roundw
          case rel => exact ⟨j + 1, by have := HJK.out; omega, by go_num, D9, F9⟩
          case measure => have := HJK.out; simp [intOf]; omega
      · have dj : decide ((j : Int) < (k : Int)) = false := by simp; omega
        have dj' : decide (j < k) = false := by simp; omega
        have hje : j = k := by omega
        have D9 := Lib.hid (show DpAt wr b (setD p s ys) by rw [HSD.out, ← hje]; exact HD.out)
        clear hje
        go_wp2
        go_ret
        exact ⟨rfl, D9.out, HFW.out⟩
end Go.Proofs.Ythbbnebanmpcjaa.Pg

/- The document's page: Bytes. -/
namespace Go.Proofs.Ythbbnebanmpcjaa.Pg
open Go.ChangeShapes Go.WideShapes Go.ChangeAt Go.RowKit Go.IntWalk Go.Proofs.Mem Go.Proofs.Each
set_option linter.unusedVariables false
set_option linter.unusedSimpArgs false
def entB (p : Dp) : Nat → List Int
  | 0 => ((NumBytes.putS p.L 8 ++ NumBytes.putS p.N 4) ++ NumBytes.putS (trimF p.S 40) 2) ++ NumBytes.putS (lowF p.O p.S 40) 2
  | i + 1 => (entB p i ++ NumBytes.putS (p.O i) 2) ++ NumBytes.putS (p.S i) 2
def bytesD (p : Dp) : List Int := entB p (trimF p.S 40) ++ bseg p.B (16 + 4 * trimF p.S 40) (448 - (16 + 4 * trimF p.S 40))
theorem entB_len (p : Dp) : ∀ i, (entB p i).length = 16 + 4 * i := by
  intro i
  induction i with
  | zero => simp [entB, NumBytes.putS_len]
  | succ i ih => simp [entB, NumBytes.putS_len, ih]; omega
theorem bseg_succ (B : Nat → Int) (o n : Nat) : bseg B o (n + 1) = bseg B o n ++ [B (o + n)] := by
  unfold bseg; rw [List.range_succ, List.map_append]; rfl
theorem entB_bytes (p : Dp) : ∀ i, Bytes (entB p i) := by
  intro i
  induction i with
  | zero => exact (((NumBytes.putS_bytes _ _).app (NumBytes.putS_bytes _ _)).app (NumBytes.putS_bytes _ _)).app (NumBytes.putS_bytes _ _)
  | succ i ih => exact (ih.app (NumBytes.putS_bytes _ _)).app (NumBytes.putS_bytes _ _)
theorem bytesD_len (p : Dp) : (bytesD p).length = 448 := by
  have := trimF_le p.S 40
  unfold bytesD
  rw [List.length_append, entB_len, bseg_len]; omega
theorem bytesD_bytes {p : Dp} (h : p.Ok) : Bytes (bytesD p) := (entB_bytes p _).app (bseg_bytes h _ _)
set_option maxRecDepth 100000 in
set_option maxHeartbeats 8000000 in
theorem rbytes (w : World) (b : Nat) (p : Dp) (h : DpAt w b p) :
    Calls Try.prog 38 #[.pointer (some ⟨b, 0, none⟩)] w fun e w' => ∃ u, e = .returned u ∧ w'.ownsRow w.heap.size 5 1 u 448 ((bytesD p).map (.int .u8)) ∧ Below w.heap.size w w' := by
  obtain ⟨i0, hi0, hz0, hz1, hz2⟩ := info_parts NumBytes.u8_info
  have HP := Lib.hid h
  have kL := h.l
  have HN8 := trimF_le p.S 40
  have HL8 := lowF_le p.O p.S 40
  have P1 := Lib.hid (NumBytes.put_ref p.L 8 h.ok.L.1 h.ok.L.2 (by decide) (by decide) w)
  have P2 := Lib.hid (fun W => NumBytes.put_ref p.N 4 h.ok.N.1 (by have := h.ok.N.2; omega) (by decide) (by decide) W)
  have P3 := Lib.hid (fun W => NumBytes.put_ref (trimF p.S 40 : Nat) 2 (by omega) (by omega) (by decide) (by decide) W)
  have P4 := Lib.hid (fun W => NumBytes.put_ref (lowF p.O p.S 40 : Nat) 2 (by omega) (by omega) (by decide) (by decide) W)
  have P5 := Lib.hid (fun i (hi : i < 40) W => NumBytes.put_ref (p.O i : Nat) 2 (by omega) (by have := h.ok.O i hi; omega) (by decide) (by decide) W)
  have P6 := Lib.hid (fun i (hi : i < 40) W => NumBytes.put_ref (p.S i : Nat) 2 (by omega) (by have := h.ok.S i hi; omega) (by decide) (by decide) W)
  have wN : IntKind.u64.wrap p.N = p.N := by rw [IntKind.wrap_u64]; have := h.ok.N; omega
  have wn : IntKind.u64.wrap ((trimF p.S 40 : Nat) : Int) = ((trimF p.S 40 : Nat) : Int) := by rw [IntKind.wrap_u64]; omega
  have wl : IntKind.u64.wrap ((lowF p.O p.S 40 : Nat) : Int) = ((lowF p.O p.S 40 : Nat) : Int) := by rw [IntKind.wrap_u64]; omega
  have HE0 := Lib.hid (show entB p 0 = ((NumBytes.putS p.L 8 ++ NumBytes.putS p.N 4) ++ NumBytes.putS (trimF p.S 40) 2) ++ NumBytes.putS (lowF p.O p.S 40) 2 from rfl)
  have HBD := Lib.hid (show bytesD p = entB p (trimF p.S 40) ++ bseg p.B (16 + 4 * trimF p.S 40) (448 - (16 + 4 * trimF p.S 40)) from rfl)
  have CA := Lib.hid (fun W (hb : Below w.heap.size w W) => rcount W b p (HP.out.later hb))
  have LA := Lib.hid (fun W (hb : Below w.heap.size w W) => rlow W b p (HP.out.later hb))
  have HOK := Lib.hid h.ok
  rw [HBD.out]
  obtain ⟨n, hn⟩ : ∃ n, n = trimF p.S 40 := ⟨_, rfl⟩
  obtain ⟨lo, hlo⟩ : ∃ n, n = lowF p.O p.S 40 := ⟨_, rfl⟩
  rw [← hn] at HN8 P3 wn HE0 CA ⊢
  rw [← hlo] at HL8 P4 wl HE0 LA
  obtain ⟨x1, hx1⟩ : ∃ x, x = NumBytes.putS p.L 8 := ⟨_, rfl⟩
  obtain ⟨x2, hx2⟩ : ∃ x, x = NumBytes.putS p.N 4 := ⟨_, rfl⟩
  obtain ⟨x3, hx3⟩ : ∃ x, x = NumBytes.putS (n : Int) 2 := ⟨_, rfl⟩
  obtain ⟨x4, hx4⟩ : ∃ x, x = NumBytes.putS (lo : Int) 2 := ⟨_, rfl⟩
  have HXL := Lib.hid (show x1.length = 8 ∧ x2.length = 4 ∧ x3.length = 2 ∧ x4.length = 2 by rw [hx1, hx2, hx3, hx4]; exact ⟨NumBytes.putS_len _ _, NumBytes.putS_len _ _, NumBytes.putS_len _ _, NumBytes.putS_len _ _⟩)
  rw [show (8 : Int).toNat = 8 from rfl, ← hx1] at P1
  have P2' := Lib.hid (fun W => by have := P2.out W; rw [show (4 : Int).toNat = 4 from rfl, ← hx2] at this; exact this)
  have P3' := Lib.hid (fun W => by have := P3.out W; rw [show (2 : Int).toNat = 2 from rfl, ← hx3] at this; exact this)
  have P4' := Lib.hid (fun W => by have := P4.out W; rw [show (2 : Int).toNat = 2 from rfl, ← hx4] at this; exact this)
  rw [← hx1, ← hx2, ← hx3, ← hx4] at HE0
  clear h hn hlo hx1 hx2 hx3 hx4 P2 P3 P4 HBD
  go_enter Try.func38, Try.ntmps38
  go_wp2_with fail
  (with_reducible refine P1.out.mono ?_)
  rintro e w1 ⟨v1, rfl, h1, b1⟩
  have R1 := Lib.hid h1
  have B1 := Lib.hid b1
  have kN : w1.cell? ⟨b, 1, none⟩ = some (.int .u32 p.N) := (HP.out.later b1).n
  clear h1 b1 kL
  go_wp2_with (first
    | ((with_reducible refine (P2'.out _).mono ?_); rintro e w2 ⟨v2, rfl, h2, b2⟩; have R1b := Lib.hid (own_below R1.out b2); have R2 := Lib.hid h2; have B2 := Lib.hid (step_ B1.out b2); clear h2 b2)
    | (refine wpList_append_all _ rfl _ _ _ rfl w.heap.size 5 i0 .u8 1 Try.underlying31 hi0 hz0 hz1 hz2 v1 8 x1 rfl R1b.out _ v2 x2 rfl (IR.of_own R2.out) (by rw [HXL.out.2.1]; simp only [maxLen]; omega) (by rw [HXL.out.2.1]; omega) B2.out.size ?_
       intro v3 w3 h3 b3
       have R3 := Lib.hid (show w3.ownsRow w.heap.size 5 1 v3 12 ((x1 ++ x2).map (.int .u8)) by rw [HXL.out.2.1] at h3; exact h3)
       have B3 := Lib.hid (B2.out.trans b3)
       clear h3 b3 kN wN)
    | fail)
  (with_reducible refine (CA.out _ B3.out).mono ?_)
  rintro e wx ⟨rfl, rfl⟩
  go_wp2_with (first
    | ((with_reducible refine (P3'.out _).mono ?_); rintro e w4 ⟨v4, rfl, h4, b4⟩; have R3b := Lib.hid (own_below R3.out b4); have R4 := Lib.hid h4; have B4 := Lib.hid (step_ B3.out b4); clear h4 b4)
    | (refine wpList_append_all _ rfl _ _ _ rfl w.heap.size 5 i0 .u8 1 Try.underlying31 hi0 hz0 hz1 hz2 v3 12 (x1 ++ x2) rfl R3b.out _ v4 x3 rfl (IR.of_own R4.out) (by rw [HXL.out.2.2.1]; simp only [maxLen]; omega) (by rw [HXL.out.2.2.1]; omega) B4.out.size ?_
       intro v5 w5 h5 b5
       have R5 := Lib.hid (show w5.ownsRow w.heap.size 5 1 v5 14 (((x1 ++ x2) ++ x3).map (.int .u8)) by rw [HXL.out.2.2.1] at h5; exact h5)
       have B5 := Lib.hid (B4.out.trans b5)
       clear h5 b5)
    | fail)
  (with_reducible refine (LA.out _ B5.out).mono ?_)
  rintro e wx ⟨rfl, rfl⟩
  go_wp2_with (first
    | ((with_reducible refine (P4'.out _).mono ?_); rintro e w6 ⟨v6, rfl, h6, b6⟩; have R5b := Lib.hid (own_below R5.out b6); have R6 := Lib.hid h6; have B6 := Lib.hid (step_ B5.out b6); clear h6 b6)
    | (refine wpList_append_all _ rfl _ _ _ rfl w.heap.size 5 i0 .u8 1 Try.underlying31 hi0 hz0 hz1 hz2 v5 14 ((x1 ++ x2) ++ x3) rfl R5b.out _ v6 x4 rfl (IR.of_own R6.out) (by rw [HXL.out.2.2.2]; simp only [maxLen]; omega) (by rw [HXL.out.2.2.2]; omega) B6.out.size ?_
       intro v7 w7 h7 b7
       have R7 := Lib.hid (show w7.ownsRow w.heap.size 5 1 v7 (16 + 4 * 0) ((entB p 0).map (.int .u8)) by rw [HXL.out.2.2.2] at h7; rw [HE0.out]; exact h7)
       have B7 := Lib.hid (B6.out.trans b7)
       clear h7 b7 wn wl)
    | fail)
  clear P1 P2' P3' P4' R1 B1 R3 B3 R5 B5 CA LA
  go_loopw [3, 5] (fun v iv wr => ∃ i : Nat, i ≤ n ∧ iv = .int .i64 i ∧ Hid (wr.ownsRow w.heap.size 5 1 v (16 + 4 * i) ((entB p i).map (.int .u8))) ∧ Hid (Below w.heap.size w wr)) (fun _ iv _ => n - (intOf iv).toNat)
  case atStart => exact ⟨0, Nat.zero_le _, rfl, R7, B7⟩
  case round =>
    obtain ⟨i, hi, rfl, HR, HB⟩ := hrel
    clear R7 B7
    by_cases hlt : i < n
    · have hi4 : i < 40 := by omega
      have hi4' : (i : Int) < 40 := by omega
      have ko := (HP.out.later HB.out).o i hi4
      have HO8 := HOK.out.O i hi4
      have HS8 := HOK.out.S i hi4
      have Q5 := Lib.hid (fun W => P5.out i hi4 W)
      have Q6 := Lib.hid (fun W => P6.out i hi4 W)
      have HES := Lib.hid (show entB p (i + 1) = (entB p i ++ NumBytes.putS (p.O i) 2) ++ NumBytes.putS (p.S i) 2 from rfl)
      have HLE := Lib.hid (entB_len p i)
      obtain ⟨o, ho⟩ : ∃ o, o = p.O i := ⟨_, rfl⟩
      obtain ⟨l, hl⟩ : ∃ o, o = p.S i := ⟨_, rfl⟩
      have HLS := Lib.hid hl
      rw [← ho] at ko HO8 Q5 HES
      rw [← hl] at HS8 Q6 HES
      have wo : IntKind.u64.wrap (o : Int) = (o : Int) := by rw [IntKind.wrap_u64]; omega
      have wl : IntKind.u64.wrap (l : Int) = (l : Int) := by rw [IntKind.wrap_u64]; omega
      obtain ⟨y1, hy1⟩ : ∃ x, x = NumBytes.putS (o : Int) 2 := ⟨_, rfl⟩
      obtain ⟨y2, hy2⟩ : ∃ x, x = NumBytes.putS (l : Int) 2 := ⟨_, rfl⟩
      have HYL := Lib.hid (show y1.length = 2 ∧ y2.length = 2 by rw [hy1, hy2]; exact ⟨NumBytes.putS_len _ _, NumBytes.putS_len _ _⟩)
      have Q5' := Lib.hid (fun W => by have := Q5.out W; rw [show (2 : Int).toNat = 2 from rfl, ← hy1] at this; exact this)
      have Q6' := Lib.hid (fun W => by have := Q6.out W; rw [show (2 : Int).toNat = 2 from rfl, ← hy2] at this; exact this)
      rw [← hy1, ← hy2] at HES
      obtain ⟨E, hE⟩ : ∃ E, E = entB p i := ⟨_, rfl⟩
      rw [← hE] at HR HES HLE
      have HI4 := Lib.hid (And.intro hlt hi4)
      clear ho hl HO8 HS8 hy1 hy2 Q5 Q6 hE
      go_wp2_with (first
        | ((with_reducible refine (Q5'.out _).mono ?_); rintro e w2 ⟨v2, rfl, h2, b2⟩; have RB := Lib.hid (own_below HR.out b2); have R2 := Lib.hid h2; have B2 := Lib.hid (step_ HB.out b2); clear h2 b2)
        | (refine wpList_append_all _ rfl _ _ _ rfl w.heap.size 5 i0 .u8 1 Try.underlying31 hi0 hz0 hz1 hz2 _ (16 + 4 * i) E rfl RB.out _ v2 y1 rfl (IR.of_own R2.out) (by rw [HYL.out.1]; simp only [maxLen]; omega) (by rw [HYL.out.1]; omega) B2.out.size ?_
           intro v3 w3 h3 b3
           have R3 := Lib.hid (show w3.ownsRow w.heap.size 5 1 v3 (18 + 4 * i) ((E ++ y1).map (.int .u8)) by rw [HYL.out.1] at h3; rw [show 18 + 4 * i = 16 + 4 * i + 2 by omega]; exact h3)
           have B3 := Lib.hid (B2.out.trans b3)
           have ks : w3.cell? ⟨b, 42 + i, none⟩ = some (.int .i64 (l : Int)) := by rw [HLS.out]; exact (HP.out.later B3.out).s i HI4.out.2
           clear h3 b3 ko wo)
        | ((with_reducible refine (Q6'.out _).mono ?_); rintro e w4 ⟨v4, rfl, h4, b4⟩; have RB3 := Lib.hid (own_below R3.out b4); have R4 := Lib.hid h4; have B4 := Lib.hid (step_ B3.out b4); clear h4 b4)
        | (refine wpList_append_all _ rfl _ _ _ rfl w.heap.size 5 i0 .u8 1 Try.underlying31 hi0 hz0 hz1 hz2 v3 (18 + 4 * i) (E ++ y1) rfl RB3.out _ v4 y2 rfl (IR.of_own R4.out) (by rw [HYL.out.2]; simp only [maxLen]; omega) (by rw [HYL.out.2]; omega) B4.out.size ?_
           intro v5 w5 h5 b5
           have R5 := Lib.hid (show w5.ownsRow w.heap.size 5 1 v5 (16 + 4 * (i + 1)) ((entB p (i + 1)).map (.int .u8)) by rw [HYL.out.2] at h5; rw [HES.out, show 16 + 4 * (i + 1) = 18 + 4 * i + 2 by omega]; exact h5)
           have B5 := Lib.hid (B4.out.trans b5)
           clear h5 b5 ks wl)
        | fail)
      go_roundw
      case rel => exact ⟨i + 1, by have := HI4.out; omega, by go_num, R5, B5⟩
      case measure => have := HI4.out; simp [intOf]; omega
    · have hie : i = n := by omega
      subst hie
      obtain ⟨A0, c0, ev⟩ := own_slice' HR.out
      subst ev
      have HEL := Lib.hid (entB_len p i)
      obtain ⟨E, hE⟩ : ∃ E, E = entB p i := ⟨_, rfl⟩
      rw [← hE] at HR HEL
      have HEE := Lib.hid hE
      obtain ⟨e0, he0⟩ : ∃ e, e = 16 + 4 * i := ⟨_, rfl⟩
      have HE48 := Lib.hid (show e0 ≤ 448 by omega)
      have HEZ := Lib.hid he0
      rw [← he0] at HR HEL ⊢
      have R0 := Lib.hid (show wr.ownsRow w.heap.size 5 1 (.slice A0 e0 c0) (e0 + 0) ((E ++ bseg p.B e0 0).map (.int .u8)) from by
        have e : E ++ bseg p.B e0 0 = E := by unfold bseg; simp
        rw [e]; exact HR.out)
      clear hE he0 hlt hi
      go_wp2
      go_loopw [3, 6] (fun v iv wr => ∃ j : Nat, j ≤ 448 - e0 ∧ iv = .int .i64 ((e0 + j : Nat) : Int) ∧ Hid (wr.ownsRow w.heap.size 5 1 v (e0 + j) ((E ++ bseg p.B e0 j).map (.int .u8))) ∧ Hid (Below w.heap.size w wr)) (fun _ iv _ => 448 - (intOf iv).toNat)
      case atStart => exact ⟨0, Nat.zero_le _, rfl, R0, HB⟩
      case round =>
        obtain ⟨j, hj, rfl, HR2, HB2⟩ := hrel
        clear R0 HB HR
        by_cases hlt : j < 448 - e0
        · obtain ⟨m, hm⟩ : ∃ m, m = e0 + j := ⟨_, rfl⟩
          have hm8 : m < 448 := by omega
          have hm8' : (m : Int) < 448 := by omega
          have HMJ := Lib.hid (And.intro hm hlt)
          have kb := (HP.out.later HB2.out).bb m hm8
          have HBS := Lib.hid (show bseg p.B e0 (j + 1) = bseg p.B e0 j ++ [p.B m] by rw [bseg_succ, hm])
          obtain ⟨ch, hch⟩ : ∃ c, c = p.B m := ⟨_, rfl⟩
          rw [← hch] at kb HBS
          obtain ⟨G, hG⟩ : ∃ G, G = E ++ bseg p.B e0 j := ⟨_, rfl⟩
          have HGE := Lib.hid hG
          rw [← hG, ← hm] at HR2
          rw [← hm]
          clear hG hch hj hlt hm
          go_wp2_with (at_builtin; refine wpList_push _ rfl _ _ _ rfl w.heap.size 5 i0 .u8 1 Try.underlying31 hi0 hz0 hz1 hz2 _ m G rfl (HR2.out.alloc _) wr.heap.size ch rfl (cell_new _ _ _ 0) (by simp only [maxLen]; omega) (by omega) (by have := HB2.out.size; simp; omega) ?_; intro v5 w5' hown5 hb5)
          have HO5 := Lib.hid (show w5'.ownsRow w.heap.size 5 1 v5 (e0 + (j + 1)) ((E ++ bseg p.B e0 (j + 1)).map (.int .u8)) by rw [HBS.out, ← List.append_assoc, ← HGE.out, show e0 + (j + 1) = m + 1 by have := HMJ.out; omega]; exact hown5)
          have HB5 := Lib.hid (show Below w.heap.size w w5' from (HB2.out.trans ((new_ (Below.refl _ _) _).mono HB2.out.size)).trans hb5)
          clear hown5 hb5
          go_wp2
          go_roundw
          case rel => exact ⟨j + 1, by have := HMJ.out; omega, by rw [show e0 + (j + 1) = m + 1 by have := HMJ.out; omega]; go_num, HO5, HB5⟩
          case measure => have := HMJ.out; simp [intOf]; omega
        · have hje : j = 448 - e0 := by omega
          have he8 := HE48.out
          have dm : ¬ ((e0 + j : Nat) : Int) < 448 := by omega
          have HR9 := Lib.hid (show wr.ownsRow w.heap.size 5 1 _ 448 ((E ++ bseg p.B e0 (448 - e0)).map (.int .u8)) by
            have := HR2.out
            rw [hje, show e0 + (448 - e0) = 448 by omega] at this
            exact this)
          have hm8 : e0 + j = 448 := by omega
          rw [hm8] at dm ⊢
          clear hje HR2 hj hlt he8 hm8
          go_wp2
          go_ret
          have h9 := HR9.out
          rw [HEE.out, HEZ.out, List.map_append] at h9
          exact ⟨_, rfl, h9, HB2.out⟩
end Go.Proofs.Ythbbnebanmpcjaa.Pg

/- The document's page and the program's bytes say the same: pure. -/
namespace Go.Proofs.Ythbbnebanmpcjaa.Pg
open Go.Proofs.Mem
set_option linter.unusedVariables false
set_option linter.unusedSimpArgs false
/-! offsets behind each step -/
theorem off_num {xs : List Int} {n : Int} (hx : xs.length = 448) {t : Nat} (ht : t < 40) : off (setN xs 12 2 n) t = off xs t := by
  unfold off
  rw [gt_setN_far (by omega) (by omega) (by omega)]
theorem off_empty {xs : List Int} (W : Wf0 xs) {s t : Nat} (hs : s < cnt xs) (h0 : len xs s ≠ 0) (ht : t < cnt xs) (hne : t ≠ s) : off (emptyP xs s) t = off xs t := by
  have hC := W.cnt
  have hx := W.len
  have hin := W.ins s hs h0
  have hr : (List.replicate (len xs s) (0 : Int)).length = len xs s := List.length_replicate
  have e1 : (splice xs (off xs s) (List.replicate (len xs s) 0)).length = 448 := by rw [splice_len (by rw [hr]; omega)]; exact hx
  have e2 : (place (splice xs (off xs s) (List.replicate (len xs s) 0)) s 0 0).length = 448 := by rw [place_len (by omega)]; exact e1
  obtain ⟨zs, hzs⟩ : ∃ zs, zs = place (splice xs (off xs s) (List.replicate (len xs s) 0)) s 0 0 := ⟨_, rfl⟩
  have z1 : zs.length = 448 := by rw [hzs]; exact e2
  obtain ⟨L, hL⟩ : ∃ L, L = lowTo zs (min (cnt zs) 40) := ⟨_, rfl⟩
  have hE : emptyP xs s = setN zs 14 2 (L : Int) := by unfold emptyP; rw [hL, hzs]
  have e : gt (emptyP xs s) (16 + 4 * t) 2 = gt xs (16 + 4 * t) 2 := by
    rw [hE, gt_setN_far (by omega) (by omega) (by omega), hzs, gt_place_far (by omega) (by omega) (by omega), gt_splice_far (by rw [hr]; omega) (by omega) (by rw [hr]; omega)]
  unfold off
  rw [e]
theorem off_clear {xs : List Int} (W : Wf xs) (hb : Bytes xs) {s t : Nat} (hs : s < cnt xs) (h0 : len xs s ≠ 0) (ht : t < cnt xs) (hne : t ≠ s) : off (clearP xs s) t = off xs t := by
  unfold clearP
  rw [off_num (empty_wf W.w0 hs h0).1.len (by have := W.w0.cnt; omega)]
  exact off_empty W.w0 hs h0 ht hne
theorem off_lay {xs ys : List Int} (W : Wf0 xs) {s t : Nat} (hs : s < cnt xs) (hl : 16 + 4 * cnt xs + ys.length ≤ low xs) (ht : t < cnt xs) (hne : t ≠ s) : off (layP xs s ys) t = off xs t := by
  have hC := W.cnt
  have h2 := W.lowle
  unfold off
  rw [lay_gt W.len (by omega) (by omega) h2.2 (by omega) (by omega) (by omega) (by omega)]
theorem off_over {xs ys : List Int} (W : Wf0 xs) {s t : Nat} (hs : s < cnt xs) (h0 : len xs s = ys.length) (hy : 0 < ys.length) (ht : t < cnt xs) : off (splice xs (off xs s) ys) t = off xs t := by
  have hC := W.cnt
  have hx := W.len
  have hin := W.ins s hs (by omega)
  have e : gt (splice xs (off xs s) ys) (16 + 4 * t) 2 = gt xs (16 + 4 * t) 2 := gt_splice_far (by omega) (by omega) (by omega)
  show (gt (splice xs (off xs s) ys) (16 + 4 * t) 2).toNat = (gt xs (16 + 4 * t) 2).toNat
  rw [e]
/-- the document's page says what the bytes say -/
structure Sim (xs : List Int) (p : Dp) : Prop where
  l : p.L = gt xs 0 8
  n : p.N = gt xs 8 4
  s : ∀ t, t < 40 → p.S t = len xs t
  o : ∀ t, t < 40 → p.O t = if len xs t = 0 then 0 else off xs t
  b : ∀ t, t < 40 → ∀ k, k < len xs t → p.B (off xs t + k) = (dat xs t).getD k 0
  z : ∀ i, i < 448 → (∀ t, t < 40 → len xs t ≠ 0 → i < off xs t ∨ off xs t + len xs t ≤ i) → p.B i = 0
def Heads (xs ys : List Int) : Prop := gt ys 0 8 = gt xs 0 8 ∧ gt ys 8 4 = gt xs 8 4
theorem heads_of {xs ys : List Int} (hx : xs.length = 448) (hy : ys.length = 448) (h : ∀ i, i < 12 → ys.getD i 0 = xs.getD i 0) : Heads xs ys :=
  ⟨gt_getD (by omega) (by omega) (fun i _ hi => h i (by omega)), gt_getD (by omega) (by omega) (fun i _ hi => h i (by omega))⟩
section
variable {xs ys : List Int} {p : Dp} {s : Nat}
theorem Sim.trim (h : Sim xs p) : ∀ i, i ≤ 40 → trimF p.S i = trim xs i := by
  intro i
  induction i with
  | zero => intro _; rfl
  | succ i ih =>
    intro hi
    show (if p.S i = 0 then trimF p.S i else i + 1) = (if len xs i = 0 then Pg.trim xs i else i + 1)
    rw [h.s i (by omega), ih (by omega)]
theorem trim_past {xs : List Int} : ∀ m, cnt xs ≤ m → trim xs m = trim xs (cnt xs) := by
  intro m
  induction m with
  | zero => intro h; rw [show cnt xs = 0 by omega]
  | succ m ih =>
    intro h
    by_cases e : cnt xs = m + 1
    · rw [e]
    · rw [trim_succ, if_pos (len_far (by omega))]; exact ih (by omega)
theorem Sim.count (h : Sim xs p) (W : Wf xs) : trimF p.S 40 = cnt xs := by
  rw [h.trim 40 (Nat.le_refl _), trim_past 40 W.w0.cnt, W.trim]
theorem Sim.lowF (h : Sim xs p) : ∀ i, i ≤ 40 → Pg.lowF p.O p.S i = lowTo xs i := by
  intro i
  induction i with
  | zero => intro _; rfl
  | succ i ih =>
    intro hi
    show (if p.S i = 0 then Pg.lowF p.O p.S i else min (Pg.lowF p.O p.S i) (p.O i)) = (if len xs i = 0 then lowTo xs i else min (lowTo xs i) (off xs i))
    rw [h.s i (by omega), ih (by omega), h.o i (by omega)]
    by_cases e : len xs i = 0
    · rw [if_pos e, if_pos e]
    · rw [if_neg e, if_neg e, if_neg e]
theorem lowTo_past {xs : List Int} : ∀ m, cnt xs ≤ m → lowTo xs m = lowTo xs (cnt xs) := by
  intro m
  induction m with
  | zero => intro h; rw [show cnt xs = 0 by omega]
  | succ m ih =>
    intro h
    by_cases e : cnt xs = m + 1
    · rw [e]
    · rw [lowTo_skip (len_far (by omega))]; exact ih (by omega)
theorem Sim.low (h : Sim xs p) (W : Wf0 xs) : Pg.lowF p.O p.S 40 = Pg.low xs := by
  rw [h.lowF 40 (Nat.le_refl _), lowTo_past 40 W.cnt, W.low]
theorem Sim.sum (h : Sim xs p) : ∀ i, i ≤ 40 → sumF p.S i = usedTo xs i := by
  intro i
  induction i with
  | zero => intro _; rfl
  | succ i ih => intro hi; rw [sumF_succ, usedTo_succ, ih (by omega), h.s i (by omega)]
theorem used_past (xs : List Int) (h : cnt xs ≤ 40) : usedTo xs 40 = usedTo xs (cnt xs) := usedTo_past (fun t ht => len_far ht) 40 h
theorem Sim.all (h : Sim xs p) (W : Wf0 xs) : allF p.S (-1) 40 = usedTo xs (cnt xs) := by
  rw [← used_past xs W.cnt]; exact h.sum 40 (Nat.le_refl _)
theorem allF_but (S : Nat → Nat) (s : Nat) : ∀ i, allF S (s : Int) i + (if s < i then S s else 0) = allF S (-1) i := by
  intro i
  induction i with
  | zero => rfl
  | succ i ih =>
    show allF S (s : Int) i + (if (i : Int) = (s : Int) then 0 else S i) + _ = allF S (-1) i + (if (i : Int) = -1 then 0 else S i)
    rw [if_neg (show ¬ (i : Int) = -1 by omega)]
    by_cases e : i = s
    · subst e
      rw [if_neg (by omega)] at ih
      rw [if_pos rfl, if_pos (by omega)]
      omega
    · rw [if_neg (by omega)]
      by_cases e2 : s < i
      · rw [if_pos e2] at ih
        rw [if_pos (by omega)]
        omega
      · rw [if_neg e2] at ih
        rw [if_neg (by omega)]
        omega
theorem Sim.but (h : Sim xs p) (W : Wf0 xs) (hs : s < 40) : allF p.S (s : Int) 40 + len xs s = usedTo xs (cnt xs) := by
  have := allF_but p.S s 40
  rw [if_pos hs, h.all W, h.s s hs] at this
  exact this
theorem Sim.slots (h : Sim xs p) (W : Wf0 xs) : slotsF p.S 40 = slotsTo xs (cnt xs) := by
  have h1 : ∀ i, i ≤ 40 → slotsF p.S i = slotsTo xs i := by
    intro i
    induction i with
    | zero => intro _; rfl
    | succ i ih =>
      intro hi
      rw [slotsF_succ, slotsTo_succ, ih (by omega), h.s i (by omega)]
  have h2 : ∀ m, cnt xs ≤ m → slotsTo xs m = slotsTo xs (cnt xs) := by
    intro m
    induction m with
    | zero => intro h; rw [show cnt xs = 0 by omega]
    | succ m ih =>
      intro h
      by_cases e : cnt xs = m + 1
      · rw [e]
      · rw [slotsTo_succ, if_pos (len_far (by omega))]; exact ih (by omega)
  rw [h1 40 (Nat.le_refl _), h2 40 W.cnt]
theorem Sim.free (h : Sim xs p) (W : Wf xs) : (432 - 4 * (trimF p.S 40 : Int) - (allF p.S (-1) 40 : Int)) = Pg.free xs := by
  rw [h.count W, h.all W.w0]
  unfold Pg.free
  omega
theorem Sim.fit (h : Sim xs p) (W : Wf0 xs) : ∀ t, t < 40 → p.S t ≠ 0 → p.O t + p.S t ≤ 448 := by
  intro t ht h0
  rw [h.s t ht] at h0 ⊢
  rw [h.o t ht, if_neg h0]
  exact W.fits t (by
    rcases Nat.lt_or_ge t (cnt xs) with e | e
    · exact e
    · exact absurd (len_far e) h0)
theorem Sim.get (h : Sim xs p) (W : Wf0 xs) (hs : s < 40) (h0 : len xs s ≠ 0) : bseg p.B (p.O s) (p.S s) = dat xs s := by
  have hsc : s < cnt xs := by
    rcases Nat.lt_or_ge s (cnt xs) with e | e
    · exact e
    · exact absurd (len_far e) h0
  have hd := dat_len W.len (W.fits s hsc)
  rw [h.s s hs, h.o s hs, if_neg h0]
  apply list_getD (by rw [bseg_len, hd])
  intro i hi
  rw [bseg_len] at hi
  rw [bseg_getD _ _ _ _ hi]
  exact h.b s hs i hi
theorem Sim.same (h : Sim xs p) (hh : Heads xs ys) (hS : Same xs ys) (ho : ∀ t, t < 40 → len xs t ≠ 0 → off ys t = off xs t) : Sim ys p := by
  refine ⟨by rw [hh.1]; exact h.l, by rw [hh.2]; exact h.n, fun t ht => by rw [(hS t).1]; exact h.s t ht, fun t ht => ?_, fun t ht k hk => ?_, fun i hi hz => h.z i hi (fun t ht h0 => ?_)⟩
  · rw [(hS t).1, h.o t ht]
    by_cases e : len xs t = 0
    · rw [if_pos e, if_pos e]
    · rw [if_neg e, if_neg e, ho t ht e]
  · rw [(hS t).1] at hk
    rw [(hS t).2, ho t ht (by omega)]
    exact h.b t ht k hk
  · have := hz t ht (by rw [(hS t).1]; exact h0)
    rw [(hS t).1, ho t ht h0] at this
    exact this
theorem apart_ {xs : List Int} (W : Wf0 xs) {s t : Nat} (h1 : len xs s ≠ 0) (h2 : len xs t ≠ 0) (hne : s ≠ t) : off xs s + len xs s ≤ off xs t ∨ off xs t + len xs t ≤ off xs s := by
  refine W.apart s t ?_ ?_ hne h1 h2
  · rcases Nat.lt_or_ge s (cnt xs) with e | e
    · exact e
    · exact absurd (len_far e) h1
  · rcases Nat.lt_or_ge t (cnt xs) with e | e
    · exact e
    · exact absurd (len_far e) h2
/-- a slot is emptied -/
theorem Sim.clear (h : Sim xs p) (W : Wf0 xs) (hs : s < 40) (h0 : len xs s ≠ 0) (hh : Heads xs ys) (hO : Others xs ys s) (hl : len ys s = 0) (ho : ∀ t, t < 40 → t ≠ s → len xs t ≠ 0 → off ys t = off xs t) : Sim ys (clearD p s) := by
  have eS : ∀ t, (clearD p s).S t = if t = s then 0 else p.S t := fun t => rfl
  have eO : ∀ t, (clearD p s).O t = if t = s then 0 else p.O t := fun t => rfl
  have eB : ∀ i, (clearD p s).B i = if p.O s ≤ i ∧ i < p.O s + p.S s then 0 else p.B i := fun t => rfl
  have hos := h.o s hs
  rw [if_neg h0] at hos
  refine ⟨by rw [hh.1]; exact h.l, by rw [hh.2]; exact h.n, fun t ht => ?_, fun t ht => ?_, fun t ht k hk => ?_, fun i hi hz => ?_⟩
  · rw [eS]
    by_cases e : t = s
    · rw [if_pos e, e, hl]
    · rw [if_neg e, (hO t e).1]; exact h.s t ht
  · rw [eO]
    by_cases e : t = s
    · rw [if_pos e, e, hl, if_pos rfl]
    · rw [if_neg e, (hO t e).1, h.o t ht]
      by_cases e2 : len xs t = 0
      · rw [if_pos e2, if_pos e2]
      · rw [if_neg e2, if_neg e2, ho t ht e e2]
  · have e : t ≠ s := by rintro rfl; omega
    rw [(hO t e).1] at hk
    rw [(hO t e).2, ho t ht e (by omega), eB]
    have ha := apart_ W h0 (show len xs t ≠ 0 by omega) (fun x => e x.symm)
    rw [hos, h.s s hs, if_neg (by omega)]
    exact h.b t ht k hk
  · rw [eB]
    by_cases e : p.O s ≤ i ∧ i < p.O s + p.S s
    · rw [if_pos e]
    · rw [if_neg e]
      refine h.z i hi (fun t ht h1 => ?_)
      by_cases e2 : t = s
      · subst e2
        rw [hos, h.s t hs] at e
        omega
      · have := hz t ht (by rw [(hO t e2).1]; exact h1)
        rw [(hO t e2).1, ho t ht e2 h1] at this
        exact this
/-- data are laid into an empty slot -/
theorem Sim.lay {dt : List Int} {o : Nat} (h : Sim xs p) (W : Wf0 ys) (hs : s < 40) (h0 : len xs s = 0) (hh : Heads xs ys) (hO : Others xs ys s) (hl : len ys s = dt.length) (hd : dat ys s = dt) (hdl : 0 < dt.length) (hof : off ys s = o) (ho : ∀ t, t < 40 → t ≠ s → len xs t ≠ 0 → off ys t = off xs t) :
    Sim ys (datD ((p.setO s o).setS s dt.length) o dt dt.length) := by
  have eS : ∀ t, (datD ((p.setO s o).setS s dt.length) o dt dt.length).S t = if t = s then dt.length else p.S t := fun t => rfl
  have eO : ∀ t, (datD ((p.setO s o).setS s dt.length) o dt dt.length).O t = if t = s then o else p.O t := fun t => rfl
  have eB : ∀ i, (datD ((p.setO s o).setS s dt.length) o dt dt.length).B i = if o ≤ i ∧ i < o + dt.length then dt.getD (i - o) 0 else p.B i := fun t => rfl
  refine ⟨by rw [hh.1]; exact h.l, by rw [hh.2]; exact h.n, fun t ht => ?_, fun t ht => ?_, fun t ht k hk => ?_, fun i hi hz => ?_⟩
  · rw [eS]
    by_cases e : t = s
    · rw [if_pos e, e, hl]
    · rw [if_neg e, (hO t e).1]; exact h.s t ht
  · rw [eO]
    by_cases e : t = s
    · rw [if_pos e, e, if_neg (by omega), hof]
    · rw [if_neg e, (hO t e).1, h.o t ht]
      by_cases e2 : len xs t = 0
      · rw [if_pos e2, if_pos e2]
      · rw [if_neg e2, if_neg e2, ho t ht e e2]
  · rw [eB]
    by_cases e : t = s
    · subst e
      rw [hl] at hk
      rw [hof, hd, if_pos (by omega)]
      congr 1; omega
    · have ha := apart_ W (show len ys s ≠ 0 by omega) (show len ys t ≠ 0 by omega) (fun x => e x.symm)
      rw [hof, hl] at ha
      rw [if_neg (by omega)]
      rw [(hO t e).1] at hk
      rw [(hO t e).2, ho t ht e (by omega)]
      exact h.b t ht k hk
  · have hzs := hz s hs (by omega)
    rw [hof, hl] at hzs
    rw [eB, if_neg (by omega)]
    refine h.z i hi (fun t ht h1 => ?_)
    have e2 : t ≠ s := by rintro rfl; exact h1 h0
    have := hz t ht (by rw [(hO t e2).1]; exact h1)
    rw [(hO t e2).1, ho t ht e2 h1] at this
    exact this
/-- data are laid over data of the same length -/
theorem Sim.over {dt : List Int} (h : Sim xs p) (W : Wf0 xs) (hs : s < 40) (h0 : len xs s = dt.length) (hdl : 0 < dt.length) (hh : Heads xs ys) (hO : Others xs ys s) (hl : len ys s = dt.length) (hd : dat ys s = dt) (ho : ∀ t, t < 40 → len xs t ≠ 0 → off ys t = off xs t) :
    Sim ys (datD p (off xs s) dt dt.length) := by
  have eB : ∀ i, (datD p (off xs s) dt dt.length).B i = if off xs s ≤ i ∧ i < off xs s + dt.length then dt.getD (i - off xs s) 0 else p.B i := fun t => rfl
  have hos := ho s hs (by omega)
  have hlen : ∀ t, len ys t = len xs t := fun t => by
    by_cases e : t = s
    · rw [e, hl, h0]
    · exact (hO t e).1
  refine ⟨by rw [hh.1]; exact h.l, by rw [hh.2]; exact h.n, fun t ht => by rw [hlen]; exact h.s t ht, fun t ht => ?_, fun t ht k hk => ?_, fun i hi hz => ?_⟩
  · rw [hlen]
    show p.O t = _
    rw [h.o t ht]
    by_cases e2 : len xs t = 0
    · rw [if_pos e2, if_pos e2]
    · rw [if_neg e2, if_neg e2, ho t ht e2]
  · rw [hlen] at hk
    rw [ho t ht (by omega), eB]
    by_cases e : t = s
    · subst e
      rw [hd, if_pos (by omega)]
      congr 1; omega
    · have ha := apart_ W (show len xs s ≠ 0 by omega) (show len xs t ≠ 0 by omega) (fun x => e x.symm)
      rw [if_neg (by omega), (hO t e).2]
      exact h.b t ht k hk
  · have hzs := hz s hs (by omega)
    rw [hos, hl] at hzs
    rw [eB, if_neg (by omega)]
    refine h.z i hi (fun t ht h1 => ?_)
    have := hz t ht (by rw [hlen]; exact h1)
    rw [hlen, ho t ht h1] at this
    exact this
end
/-! together -/
theorem togB_at (p : Dp) {t k : Nat} (hk : k < p.S t) : ∀ n, t < n → sumF p.S n ≤ 448 → togB p n (448 - sumF p.S (t + 1) + k) = p.B (p.O t + k) := by
  intro n
  induction n with
  | zero => intro h; omega
  | succ n ih =>
    intro ht hs
    have h1 := sumF_succ p.S n
    have h2 := sumF_succ p.S t
    show (if 448 - sumF p.S (n + 1) ≤ 448 - sumF p.S (t + 1) + k ∧ 448 - sumF p.S (t + 1) + k < 448 - sumF p.S n then _ else _) = _
    by_cases e : t = n
    · subst e
      rw [if_pos (by omega)]
      congr 2; omega
    · have h3 := sumF_mono p.S (show t + 1 ≤ n by omega)
      rw [if_neg (by omega)]
      exact ih (by omega) (by omega)
theorem togB_z (p : Dp) {x : Nat} : ∀ n, sumF p.S n ≤ 448 → (∀ t, t < n → p.S t ≠ 0 → x < 448 - sumF p.S (t + 1) ∨ 448 - sumF p.S (t + 1) + p.S t ≤ x) → togB p n x = 0 := by
  intro n
  induction n with
  | zero => intros; rfl
  | succ n ih =>
    intro hs h
    have h1 := sumF_succ p.S n
    show (if 448 - sumF p.S (n + 1) ≤ x ∧ x < 448 - sumF p.S n then _ else _) = _
    by_cases e : p.S n = 0
    · rw [if_neg (by omega)]
      exact ih (by omega) (fun t ht => h t (by omega))
    · have := h n (by omega) e
      rw [if_neg (by omega)]
      exact ih (by omega) (fun t ht => h t (by omega))
theorem Sim.gather {xs : List Int} {p : Dp} (h : Sim xs p) (W : Wf0 xs) : Sim (gatherP xs) (togD p) := by
  have G := gat_gather W.len W.cnt W.fits W.room
  obtain ⟨G0, G1, G2, _, G4⟩ := gather_wf W
  have hh := heads_of W.len G0.len G4
  have hs40 : sumF p.S 40 ≤ 448 := by rw [h.sum 40 (Nat.le_refl _), used_past xs W.cnt]; have := W.room; omega
  have hof : ∀ t, t < 40 → len xs t ≠ 0 → off (gatherP xs) t = 448 - sumF p.S (t + 1) := fun t ht h0 => by
    have htc : t < cnt xs := by
      rcases Nat.lt_or_ge t (cnt xs) with e | e
      · exact e
      · exact absurd (len_far e) h0
    rw [G.offs t htc h0, h.sum (t + 1) (by omega)]
  refine ⟨by rw [hh.1]; exact h.l, by rw [hh.2]; exact h.n, fun t ht => by rw [(G2 t).1]; exact h.s t ht, fun t ht => ?_, fun t ht k hk => ?_, fun i hi hz => ?_⟩
  · rw [(G2 t).1]
    show (if t < 40 ∧ p.S t ≠ 0 then 448 - sumF p.S (t + 1) else p.O t) = _
    by_cases e : len xs t = 0
    · rw [if_neg (by rw [h.s t ht]; exact fun x => x.2 e), if_pos e, h.o t ht, if_pos e]
    · rw [if_pos ⟨ht, by rw [h.s t ht]; exact e⟩, if_neg e, hof t ht e]
  · rw [(G2 t).1] at hk
    rw [(G2 t).2, hof t ht (by omega)]
    show togB p 40 (448 - sumF p.S (t + 1) + k) = _
    rw [togB_at p (by rw [h.s t ht]; exact hk) 40 ht hs40, h.o t ht, if_neg (by omega)]
    exact h.b t ht k hk
  · show togB p 40 i = 0
    refine togB_z p 40 hs40 (fun t ht h0 => ?_)
    rw [h.s t ht] at h0
    have := hz t ht (by rw [(G2 t).1]; exact h0)
    rw [(G2 t).1, hof t ht h0] at this
    rw [h.s t ht]
    exact this
/-! the steps -/
theorem in_cnt {xs : List Int} {t : Nat} (h : len xs t ≠ 0) : t < cnt xs := by
  rcases Nat.lt_or_ge t (cnt xs) with e | e
  · exact e
  · exact absurd (len_far e) h
theorem sim_clear {xs : List Int} {p : Dp} (h : Sim xs p) (W : Wf xs) (hb : Bytes xs) {s : Nat} (h0 : len xs s ≠ 0) : Sim (clearP xs s) (clearD p s) := by
  obtain ⟨c1, c2, _, c4, c5, _, _, c8⟩ := clear_wf W hb h0
  exact h.clear W.w0 c8 h0 (heads_of W.w0.len c1.w0.len c5) c4 c2 (fun t ht hne h1 => off_clear W hb (in_cnt h0) h0 (in_cnt h1) hne)
theorem sim_a {xs : List Int} {p : Dp} (h : Sim xs p) (W : Wf0 xs) {s : Nat} (hs : s < 40) : Sim (aSet xs s) (aD p s) := by
  unfold aSet aD
  rw [h.s s hs]
  by_cases h0 : len xs s = 0
  · rw [if_pos h0, if_pos h0]; exact h
  · rw [if_neg h0, if_neg h0]
    obtain ⟨c1, c2, c3, c4, c5⟩ := empty_wf W (in_cnt h0) h0
    exact h.clear W hs h0 (heads_of W.len c1.len c5) c4 c3 (fun t ht hne h1 => off_empty W (in_cnt h0) h0 (in_cnt h1) hne)
theorem sim_n {xs : List Int} {p : Dp} (h : Sim xs p) (W : Wf xs) (s : Nat) : nD p s = nSet xs s := by unfold nD nSet; rw [h.count W]
theorem sim_g {xs : List Int} {p : Dp} (h : Sim xs p) (W : Wf xs) {s : Nat} (hs : s < 40) (k : Nat) : gD p s k = gSet xs s k := by
  have A := aSet_wf W.w0 s
  have hl := (sim_a h W.w0 hs).low A.1
  unfold gD gSet
  rw [hl, sim_n h W s]
  exact decide_eq_decide.2 (by omega)
theorem sim_b {xs : List Int} {p : Dp} (h : Sim xs p) (W : Wf xs) {s : Nat} (hs : s < 40) (k : Nat) : Sim (bSet xs s k) (bD p s k) := by
  have A := aSet_wf W.w0 s
  have ha := sim_a h W.w0 hs
  unfold bSet bD
  rw [sim_g h W hs k]
  split
  · exact ha.gather A.1
  · exact ha
theorem sim_set {xs ys : List Int} {p : Dp} (h : Sim xs p) (W : Wf xs) {s : Nat} (hs : s < 40) (hy : 0 < ys.length ∧ ys.length ≤ 64) (hr : room xs s ys.length) : Sim (setP xs s ys) (setD p s ys) := by
  obtain ⟨s1, s2, s3, s4, s5⟩ := set_wf W hs hy hr
  have hh := heads_of W.w0.len s1.w0.len s5
  unfold setD qD
  rw [h.s s hs]
  by_cases h0 : len xs s = ys.length
  · rw [if_pos h0, h.o s hs, if_neg (by omega)]
    have e : setP xs s ys = splice xs (off xs s) ys := by unfold setP; rw [if_pos h0]
    refine h.over W.w0 hs h0 hy.1 hh s4 s2 s3 (fun t ht h1 => ?_)
    rw [e]
    exact off_over W.w0 (in_cnt (by omega)) h0 hy.1 (in_cnt h1)
  · rw [if_neg h0]
    have e : setP xs s ys = layP (cSet xs s ys.length) s ys := by unfold setP; rw [if_neg h0]
    obtain ⟨B0, B1, B2, B3, B4, B5, _, B6⟩ := bSet_wf W.w0 hr
    obtain ⟨C0, C1, C2, C3, C4, C5, C6⟩ := cSet_wf W.w0 hs hr
    have hb := sim_b h W hs ys.length
    have hn := nSet_le W.w0.cnt hs
    have g := grow_wf B0 (n := nSet xs s) (by omega) (by omega) (by rw [B1]; have := room_le hr B4; omega) (by omega)
    have hc : Sim (cSet xs s ys.length) (bD p s ys.length) := by
      refine hb.same (heads_of B0.len C0.len (fun i hi => by rw [C6 i hi, B6 i hi])) g.2.2.1 (fun t ht h1 => ?_)
      unfold cSet
      exact off_num B0.len ht
    have hlow : Pg.lowF (bD p s ys.length).O (bD p s ys.length).S 40 = low (cSet xs s ys.length) := hc.low C0
    have hlo := C0.lowle
    rw [C1] at hlo
    have hlay := lay_off C0.len (show s < 107 by omega) (show ys.length ≤ low (cSet xs s ys.length) by omega) hlo.2
    have hcO : (cD p s ys.length).O s = low (cSet xs s ys.length) - ys.length := by
      show (if s = s then Pg.lowF (bD p s ys.length).O (bD p s ys.length).S 40 - ys.length else (bD p s ys.length).O s) = _
      rw [if_pos rfl, hlow]
    have hcD : cD p s ys.length = ((bD p s ys.length).setO s (low (cSet xs s ys.length) - ys.length)).setS s ys.length := by unfold cD; rw [hlow]
    rw [hcO, hcD]
    have hO : Others (cSet xs s ys.length) (setP xs s ys) s := fun t ht => ⟨by rw [(s4 t ht).1, (C3 t ht).1], by rw [(s4 t ht).2, (C3 t ht).2]⟩
    refine hc.lay s1.w0 hs C2 (heads_of C0.len s1.w0.len (fun i hi => by rw [s5 i hi, C6 i hi])) hO s2 s3 hy.1 ?_ (fun t ht hne h1 => ?_)
    · rw [e]; exact hlay.1
    · rw [e]
      exact off_lay C0 (by rw [C1]; omega) (by rw [C1]; exact C5) (in_cnt h1) hne
theorem sim_ok {xs : List Int} {p : Dp} (h : Sim xs p) (W : Wf xs) {s k : Nat} (hs : s < 40) (hr : room xs s k) : OkD p s k := by
  have A := aSet_wf W.w0 s
  have ha := sim_a h W.w0 hs
  obtain ⟨B0, B1, B2, B3, B4, B5, _, B6⟩ := bSet_wf W.w0 hr
  refine ⟨h.fit W.w0 s hs, fun _ _ => ⟨ha.fit A.1, ?_⟩, fun _ => ?_⟩
  · rw [ha.sum 40 (Nat.le_refl _), used_past _ A.1.cnt]
    have := A.1.room
    omega
  · rw [(sim_b h W hs k).low B0]; omega
theorem sim_full {xs : List Int} {p : Dp} (h : Sim xs p) (W : Wf xs) {s : Nat} (hs : s < 40) (k : Nat) : (448 < 16 + 4 * nD p s + allF p.S (s : Int) 40 + k) ↔ ¬ room xs s k := by
  have := h.but W.w0 hs
  rw [sim_n h W s]
  unfold room
  omega
theorem sim_stamp {xs : List Int} {p : Dp} (h : Sim xs p) (W : Wf xs) {M : Int} (hM : 0 ≤ M ∧ M < 2 ^ (8 * 8)) : Sim (setN xs 0 8 M) (p.setL M) := by
  have hx := W.w0.len
  obtain ⟨s1, s2, s3, s4, s5⟩ := stamp_wf W (a := 0) (n := 8) (by decide) M
  have h1 : gt (setN xs 0 8 M) 8 4 = gt xs 8 4 := gt_setN_far (by omega) (by omega) (by omega)
  have ho : ∀ t, t < 40 → off (setN xs 0 8 M) t = off xs t := fun t ht => by unfold off; rw [gt_setN_far (by omega) (by omega) (by omega)]
  refine ⟨(gt_setN (by omega) (by decide) hM.1 hM.2).symm, by rw [h1]; exact h.n, fun t ht => by rw [(s4 t).1]; exact h.s t ht, fun t ht => by rw [(s4 t).1, ho t ht]; exact h.o t ht, fun t ht k hk => ?_, fun i hi hz => h.z i hi (fun t ht h0 => ?_)⟩
  · rw [(s4 t).1] at hk
    rw [(s4 t).2, ho t ht]
    exact h.b t ht k hk
  · have := hz t ht (by rw [(s4 t).1]; exact h0)
    rw [(s4 t).1, ho t ht] at this
    exact this
theorem sim_new {n : Int} (hn : 0 ≤ n ∧ n ≤ 4294967295) : Sim (newP n) (newD n) := by
  have W := new_wf n
  have hz : z448.length = 448 := List.length_replicate
  have h1 : (setN z448 8 4 n).length = 448 := by rw [setN_len (by omega)]; exact hz
  have hl : ∀ t, len (newP n) t = 0 := fun t => len_far (by rw [W.2.1]; omega)
  have e1 : gt (newP n) 0 8 = 0 := by
    unfold newP
    rw [gt_setN_far (by omega) (by omega) (by omega), gt_setN_far (by omega) (by omega) (by omega)]
    decide +kernel
  have e2 : gt (newP n) 8 4 = n := by
    unfold newP
    have h32 : (2 : Int) ^ (8 * 4) = 4294967296 := by decide
    rw [gt_setN_far (by omega) (by omega) (by omega), gt_setN (by omega) (by decide) hn.1 (by rw [h32]; omega)]
  refine ⟨e1.symm, e2.symm, fun t _ => (hl t).symm, fun t _ => by rw [if_pos (hl t)]; rfl, fun t _ k hk => by rw [hl t] at hk; omega, fun i _ _ => rfl⟩
end Go.Proofs.Ythbbnebanmpcjaa.Pg

/- The document's page, asked by what the bytes say. -/
namespace Go.Proofs.Ythbbnebanmpcjaa.Pg
open Go.ChangeShapes Go.WideShapes Go.ChangeAt Go.RowKit Go.IntWalk Go.Proofs.Mem
set_option linter.unusedVariables false
set_option linter.unusedSimpArgs false
theorem take_seg (xs : List Int) (a n : Nat) : xs.take a ++ (xs.drop a).take n = xs.take (a + n) := (List.take_add ..).symm
theorem sim_ent {xs : List Int} {p : Dp} (h : Sim xs p) (W : Wf xs) (hb : Bytes xs) : ∀ i, i ≤ cnt xs → entB p i = xs.take (16 + 4 * i) := by
  have hx := W.w0.len
  have hC := W.w0.cnt
  have tw : ∀ a, a + 2 ≤ 448 → NumBytes.putS (((gt xs a 2).toNat : Nat) : Int) 2 = (xs.drop a).take 2 := fun a ha => by
    have h2 := two_b hb a (by omega)
    rw [show (((gt xs a 2).toNat : Nat) : Int) = gt xs a 2 by omega]
    exact Codec.put_at xs hb a 2 (by decide) (by omega)
  intro i
  induction i with
  | zero =>
    intro _
    show ((NumBytes.putS p.L 8 ++ NumBytes.putS p.N 4) ++ NumBytes.putS (trimF p.S 40 : Nat) 2) ++ NumBytes.putS (lowF p.O p.S 40 : Nat) 2 = _
    have e1 : NumBytes.putS p.L 8 = xs.take 8 := by
      rw [h.l]
      have := Codec.put_at xs hb 0 8 (by decide) (by omega)
      rw [List.drop_zero] at this
      exact this
    have e2 : NumBytes.putS p.N 4 = (xs.drop 8).take 4 := by rw [h.n]; exact Codec.put_at xs hb 8 4 (by decide) (by omega)
    have e3 : NumBytes.putS ((trimF p.S 40 : Nat) : Int) 2 = (xs.drop 12).take 2 := by rw [h.count W]; exact tw 12 (by omega)
    have e4 : NumBytes.putS ((lowF p.O p.S 40 : Nat) : Int) 2 = (xs.drop 14).take 2 := by rw [h.low W.w0]; exact tw 14 (by omega)
    rw [e1, e2, e3, e4, take_seg, take_seg, take_seg]
  | succ i ih =>
    intro hi
    show (entB p i ++ NumBytes.putS (p.O i : Nat) 2) ++ NumBytes.putS (p.S i : Nat) 2 = _
    have eO : p.O i = off xs i := by
      rw [h.o i (by omega)]
      by_cases e : len xs i = 0
      · rw [if_pos e, W.w0.nil i (by omega) e]
      · rw [if_neg e]
    have eS : p.S i = lenR xs i := by rw [h.s i (by omega), len_in (by omega)]
    have e1 : NumBytes.putS ((p.O i : Nat) : Int) 2 = (xs.drop (16 + 4 * i)).take 2 := by rw [eO]; exact tw (16 + 4 * i) (by omega)
    have e2 : NumBytes.putS ((p.S i : Nat) : Int) 2 = (xs.drop (16 + 4 * i + 2)).take 2 := by
      rw [eS, show 16 + 4 * i + 2 = 18 + 4 * i by omega]; exact tw (18 + 4 * i) (by omega)
    rw [ih (by omega), e1, e2, take_seg, take_seg, show 16 + 4 * i + 2 + 2 = 16 + 4 * (i + 1) by omega]
theorem sim_tail {xs : List Int} {p : Dp} (h : Sim xs p) (W : Wf xs) : ∀ i, 16 + 4 * cnt xs ≤ i → i < 448 → p.B i = xs.getD i 0 := by
  intro i h1 h2
  by_cases e : ∃ t, t < 40 ∧ len xs t ≠ 0 ∧ off xs t ≤ i ∧ i < off xs t + len xs t
  · obtain ⟨t, ht, h3, h4, h5⟩ := e
    have := h.b t ht (i - off xs t) (by omega)
    rw [show off xs t + (i - off xs t) = i by omega, dat_getD (by omega), show off xs t + (i - off xs t) = i by omega] at this
    exact this
  · have hn : ∀ t, t < 40 → len xs t ≠ 0 → i < off xs t ∨ off xs t + len xs t ≤ i := fun t ht h3 => by
      rcases Nat.lt_or_ge i (off xs t) with h4 | h4
      · exact .inl h4
      · rcases Nat.lt_or_ge i (off xs t + len xs t) with h5 | h5
        · exact absurd ⟨t, ht, h3, h4, h5⟩ e
        · exact .inr h5
    rw [h.z i h2 hn]
    exact (W.w0.noug i h1 (fun s hs h3 => hn s (by have := W.w0.cnt; omega) h3)).symm
theorem sim_bytes {xs : List Int} {p : Dp} (h : Sim xs p) (W : Wf xs) (hb : Bytes xs) : bytesD p = xs := by
  have hx := W.w0.len
  have hC := W.w0.cnt
  unfold bytesD
  rw [h.count W, sim_ent h W hb (cnt xs) (Nat.le_refl _)]
  have e : bseg p.B (16 + 4 * cnt xs) (448 - (16 + 4 * cnt xs)) = xs.drop (16 + 4 * cnt xs) := by
    apply list_getD (by rw [bseg_len, List.length_drop]; omega)
    intro i hi
    rw [bseg_len] at hi
    rw [bseg_getD _ _ _ _ hi, List.getD_eq_getElem?_getD, List.getElem?_drop, ← List.getD_eq_getElem?_getD]
    exact sim_tail h W _ (by omega) (by omega)
  rw [e, List.take_append_drop]
/-- the document's page that says what the bytes xs say -/
def Dw (w : World) (r : Nat) (xs : List Int) : Prop := ∃ p, DpAt w r p ∧ Sim xs p
section
variable {w w' : World} {r : Nat} {xs : List Int}
theorem Dw.later (h : Dw w r xs) (hb : Below w.heap.size w w') : Dw w' r xs := by obtain ⟨p, h1, h2⟩ := h; exact ⟨p, h1.later hb, h2⟩
theorem Dw.fr {S : Nat → Prop} (h : Dw w r xs) (hf : Fr S w w') (hn : ¬ S r) : Dw w' r xs := by obtain ⟨p, h1, h2⟩ := h; exact ⟨p, h1.fr hf hn, h2⟩
theorem Dw.lt (h : Dw w r xs) : r < w.heap.size := by obtain ⟨p, h1, h2⟩ := h; exact h1.box.lt
end
theorem dw_number (w : World) (r : Nat) (xs : List Int) (h : Dw w r xs) :
    Calls Try.prog 35 #[.pointer (some ⟨r, 0, none⟩)] w fun e w' => e = .returned (.int .u32 (gt xs 8 4)) ∧ w = w' := by
  obtain ⟨p, h1, h2⟩ := h
  rw [← h2.n]; exact rnumber w r p h1
theorem dw_lsn (w : World) (r : Nat) (xs : List Int) (h : Dw w r xs) :
    Calls Try.prog 36 #[.pointer (some ⟨r, 0, none⟩)] w fun e w' => e = .returned (.int .u64 (gt xs 0 8)) ∧ w = w' := by
  obtain ⟨p, h1, h2⟩ := h
  rw [← h2.l]; exact rlsn w r p h1
theorem dw_free (w : World) (r : Nat) (xs : List Int) (h : Dw w r xs) (W : Wf xs) :
    Calls Try.prog 37 #[.pointer (some ⟨r, 0, none⟩)] w fun e w' => e = .returned (.int .i64 (free xs)) ∧ w = w' := by
  obtain ⟨p, h1, h2⟩ := h
  rw [← h2.free W]; exact rfree w r p h1
theorem dw_bytes (w : World) (r : Nat) (xs : List Int) (h : Dw w r xs) (W : Wf xs) (hb : Bytes xs) :
    Calls Try.prog 38 #[.pointer (some ⟨r, 0, none⟩)] w fun e w' => ∃ u, e = .returned u ∧ w'.ownsRow w.heap.size 5 1 u 448 (xs.map (.int .u8)) ∧ Below w.heap.size w w' := by
  obtain ⟨p, h1, h2⟩ := h
  have := rbytes w r p h1
  rw [sim_bytes h2 W hb] at this
  exact this
theorem dw_slots (w : World) (r : Nat) (xs : List Int) (h : Dw w r xs) (W : Wf xs) :
    Calls Try.prog 39 #[.pointer (some ⟨r, 0, none⟩)] w fun e w' => ∃ u, e = .returned u ∧ w'.ownsRow w.heap.size 3 1 u (slotsTo xs (cnt xs)).length ((slotsTo xs (cnt xs)).map (.int .i64)) ∧ Below w.heap.size w w' := by
  obtain ⟨p, h1, h2⟩ := h
  have := rslots w r p h1
  rw [h2.slots W.w0] at this
  exact this
theorem dw_stamp (w : World) (r : Nat) (xs : List Int) (h : Dw w r xs) (W : Wf xs) (M : Int) (hM : 0 ≤ M ∧ M ≤ 18446744073709551615) :
    Calls Try.prog 33 #[.pointer (some ⟨r, 0, none⟩), .int .u64 M] w fun e w' => e = .returned (.tuple #[]) ∧ Dw w' r (setN xs 0 8 M) ∧ Fr (fun x => x = r) w w' := by
  obtain ⟨p, h1, h2⟩ := h
  refine (rstamp w r p h1 M hM).mono ?_
  rintro e w1 ⟨rfl, p1, f1⟩
  have h64 : (2 : Int) ^ (8 * 8) = 18446744073709551616 := by decide
  exact ⟨rfl, ⟨_, p1, sim_stamp h2 W ⟨hM.1, by rw [h64]; omega⟩⟩, f1⟩
theorem dw_no {xs : List Int} {p : Dp} (h : Sim xs p) {N : Int} (ht : there xs N = false) : N < 0 ∨ 39 < N ∨ ∃ s : Nat, N = s ∧ s < 40 ∧ p.S s = 0 := by
  have h' := of_decide_eq_false ht
  by_cases h0 : N < 0
  · exact .inl h0
  · by_cases h1 : 39 < N
    · exact .inr (.inl h1)
    · refine .inr (.inr ⟨N.toNat, by omega, by omega, ?_⟩)
      rw [h.s _ (by omega)]
      rcases Nat.eq_zero_or_pos (len xs N.toNat) with e | e
      · exact e
      · exact absurd ⟨by omega, by omega⟩ h'
theorem dw_yes {xs : List Int} (W : Wf xs) {N : Int} (ht : there xs N = true) : ∃ s : Nat, N = s ∧ s < 40 ∧ len xs s ≠ 0 := by
  have h' := of_decide_eq_true ht
  have := in_cnt h'.2
  have := W.w0.cnt
  exact ⟨N.toNat, by omega, by omega, h'.2⟩
theorem dw_clear (w : World) (r : Nat) (xs : List Int) (h : Dw w r xs) (W : Wf xs) (hb : Bytes xs) (N : Int) :
    Calls Try.prog 31 #[.pointer (some ⟨r, 0, none⟩), .int .i64 N] w fun e w' => e = .returned (.bool (there xs N)) ∧ Dw w' r (clearX xs N) ∧ Fr (fun x => x = r) w w' := by
  obtain ⟨p, h1, h2⟩ := h
  cases ht : there xs N
  · have e2 : clearX xs N = xs := by unfold clearX; rw [ht]; rfl
    rw [e2]
    refine (rclear_no w r p h1 N (dw_no h2 ht)).mono ?_
    rintro e w1 ⟨rfl, rfl⟩
    exact ⟨rfl, ⟨p, h1, h2⟩, Fr.refl _ _⟩
  · have e2 : clearX xs N = clearP xs N.toNat := by unfold clearX; rw [ht]; rfl
    rw [e2]
    obtain ⟨s, rfl, hs, h0⟩ := dw_yes W ht
    refine (rclear_yes w r p h1 s hs (by rw [h2.s s hs]; exact h0) (h2.fit W.w0 s hs (by rw [h2.s s hs]; exact h0))).mono ?_
    rintro e w1 ⟨rfl, p1, f1⟩
    exact ⟨rfl, ⟨_, p1, sim_clear h2 W hb h0⟩, f1⟩
theorem dw_get (w : World) (r : Nat) (xs : List Int) (h : Dw w r xs) (W : Wf xs) (N : Int) :
    Calls Try.prog 32 #[.pointer (some ⟨r, 0, none⟩), .int .i64 N] w fun e w' => ∃ u, e = .returned (.tuple #[u, .bool (there xs N)]) ∧ w'.ownsRow w.heap.size 5 1 u (datX xs N).length ((datX xs N).map (.int .u8)) ∧ Below w.heap.size w w' := by
  obtain ⟨p, h1, h2⟩ := h
  cases ht : there xs N
  · have e2 : datX xs N = [] := by unfold datX; rw [ht]; rfl
    rw [e2]
    refine (rget_no w r p h1 N (dw_no h2 ht)).mono ?_
    rintro e w1 ⟨rfl, rfl⟩
    exact ⟨_, rfl, World.ownsRow_nil _ _ _ _, Below.refl _ _⟩
  · have e2 : datX xs N = dat xs N.toNat := by unfold datX; rw [ht]; rfl
    obtain ⟨s, rfl, hs, h0⟩ := dw_yes W ht
    have h3 : p.S s ≠ 0 := by rw [h2.s s hs]; exact h0
    have := rget_yes w r p h1 s hs h3 (h2.fit W.w0 s hs h3)
    rw [h2.get W.w0 hs h0, h2.s s hs] at this
    rw [e2, show ((s : Int)).toNat = s from rfl, dat_len W.w0.len (W.w0.fits s (in_cnt h0))]
    exact this
theorem dw_set (w : World) (r : Nat) (xs : List Int) (h : Dw w r xs) (W : Wf xs) (N : Int) (A : Option Addr) (k c : Nat) (ys : List Int) (hy : Bytes ys) (hyl : ys.length = k)
    (hr : ∀ w', Fr (fun x => x = r) w w' → IR w' w'.heap.size .u8 (.slice A k c) ys) :
    Calls Try.prog 34 #[.pointer (some ⟨r, 0, none⟩), .int .i64 N, .slice A k c] w fun e w' => e = .returned (.int .i64 (setE xs N k)) ∧ Dw w' r (setX xs N ys) ∧ Fr (fun x => x = r) w w' := by
  obtain ⟨p, h1, h2⟩ := h
  cases hm : mayS N k
  · have hm' := of_decide_eq_false hm
    have e1 : setE xs N k = 91 := by unfold setE; rw [hm]; rfl
    have e2 : setX xs N ys = xs := by unfold setX; rw [hyl, hm]; rfl
    rw [e1, e2]
    refine (rset_bad w r N A k c (by omega)).mono ?_
    rintro e w1 ⟨rfl, rfl⟩
    exact ⟨rfl, ⟨p, h1, h2⟩, Fr.refl _ _⟩
  · have hm' := of_decide_eq_true hm
    obtain ⟨ad, rfl⟩ := ir_some (hr w (Fr.refl _ _)) (by omega)
    obtain ⟨s, rfl⟩ : ∃ s : Nat, N = s := ⟨N.toNat, by omega⟩
    have hs : s < 40 := by omega
    have e1 : setE xs (s : Int) k = if roomB xs s k = true then 0 else 92 := by unfold setE; rw [hm, if_pos rfl]; rfl
    have e2 : setX xs (s : Int) ys = if roomB xs s k = true then setP xs s ys else xs := by
      unfold setX
      rw [hyl, hm, show ((s : Int)).toNat = s from rfl]
      simp
    have hrm : roomB xs s k = true ↔ room xs s k := by unfold roomB room; exact decide_eq_true_iff
    rw [e1, e2]
    obtain ⟨q, hq⟩ : ∃ q, q = roomB xs s k := ⟨_, rfl⟩
    rw [← hq] at hrm ⊢
    refine (rset_any w r p h1 s hs ad k c (by omega) (by omega) ys hy hyl hr (!q) (by
      rw [sim_full h2 W hs k]
      cases q
      · simp; exact fun x => by have := hrm.2 x; cases this
      · simp; exact hrm.1 rfl) (fun hf => sim_ok h2 W hs (hrm.1 (by cases q; (cases hf); (rfl))))).mono ?_
    rintro e w1 ⟨rfl, p1, f1⟩
    cases q
    · exact ⟨rfl, ⟨_, p1, h2⟩, f1⟩
    · exact ⟨rfl, ⟨_, p1, sim_set h2 W hs (by omega) (by rw [hyl]; exact hrm.1 rfl)⟩, f1⟩
theorem dw_new (w : World) (n : Int) (hn : 0 ≤ n ∧ n ≤ 4294967295) :
    Calls Try.prog 12 #[.int .u32 n] w fun e w' => e = .returned (.pointer (some ⟨w.heap.size, 0, none⟩)) ∧ Dw w' w.heap.size (newP n) ∧ Below w.heap.size w w' := by
  refine (rnew w n hn).mono ?_
  rintro e w1 ⟨rfl, p1, b1⟩
  exact ⟨rfl, ⟨_, p1, sim_new hn⟩, b1⟩
end Go.Proofs.Ythbbnebanmpcjaa.Pg

/- The law's helpers: alike, does. -/
namespace Go.Proofs.Ythbbnebanmpcjaa.Pg
open Go.ChangeShapes Go.WideShapes Go.ChangeAt Go.RowKit Go.IntWalk Go.Proofs.Mem Go.Proofs.Each
set_option linter.unusedVariables false
set_option linter.unusedSimpArgs false
theorem Pw.drew {w : World} {b : Nat} {xs : List Int} (h : Pw w b xs) : Pw w.drew b xs := ⟨⟨h.at_.box.drew, h.at_.len, h.at_.byt⟩, h.wf⟩
theorem Dw.drew {w : World} {r : Nat} {xs : List Int} (h : Dw w r xs) : Dw w.drew r xs := by obtain ⟨p, h1, h2⟩ := h; exact ⟨p, ⟨h1.box.drew, h1.ok⟩, h2⟩
theorem Pw.fr {w w' : World} {b : Nat} {xs : List Int} {S : Nat → Prop} (h : Pw w b xs) (hf : Fr S w w') (hn : ¬ S b) : Pw w' b xs := ⟨⟨h.at_.box.fr hf hn, h.at_.len, h.at_.byt⟩, h.wf⟩
set_option maxRecDepth 100000 in
set_option maxHeartbeats 8000000 in
theorem alike_any (w : World) (b r : Nat) (xs : List Int) (hp : Pw w b xs) (hd : Dw w r xs) :
    Calls Try.prog 14 #[.pointer (some ⟨b, 0, none⟩), .pointer (some ⟨r, 0, none⟩)] w fun e w' => e = .returned (.bool true) ∧ Below w.heap.size w w' := by
  have HP := Lib.hid hp
  have HD := Lib.hid hd
  have N1 := Lib.hid (number_any w b xs hp.at_)
  have N2 := Lib.hid (dw_number w r xs hd)
  have L1 := Lib.hid (lsn_any w b xs hp.at_)
  have L2 := Lib.hid (dw_lsn w r xs hd)
  have F1 := Lib.hid (free_any w b xs hp.at_ hp.wf.w0.cnt)
  have F2 := Lib.hid (dw_free w r xs hd hp.wf)
  have B1 := Lib.hid (bytes_any w b xs hp.at_)
  have B2 := Lib.hid (fun W (hW : Below w.heap.size w W) => dw_bytes W r xs (HD.out.later hW) HP.out.wf HP.out.at_.byt)
  have S1 := Lib.hid (fun W (hW : Below w.heap.size w W) => slots_any W b xs (HP.out.later hW).at_ HP.out.wf.w0.cnt)
  have S2 := Lib.hid (fun W (hW : Below w.heap.size w W) => dw_slots W r xs (HD.out.later hW) HP.out.wf)
  obtain ⟨m1, h1⟩ : ∃ m, m = gt xs 8 4 := ⟨_, rfl⟩
  obtain ⟨m2, h2⟩ : ∃ m, m = gt xs 0 8 := ⟨_, rfl⟩
  obtain ⟨m3, h3⟩ : ∃ m, m = free xs := ⟨_, rfl⟩
  obtain ⟨L, hL⟩ : ∃ m, m = slotsTo xs (cnt xs) := ⟨_, rfl⟩
  rw [← h1] at N1 N2
  rw [← h2] at L1 L2
  rw [← h3] at F1 F2
  rw [← hL] at S1 S2
  clear h1 h2 h3 hL hp hd
  go_enter Try.func14, Try.ntmps14
  go_wp2_with fail
  (with_reducible refine N1.out.mono ?_)
  rintro e wx ⟨rfl, rfl⟩
  go_wp2_with fail
  (with_reducible refine N2.out.mono ?_)
  rintro e wx ⟨rfl, rfl⟩
  go_wp2_with fail
  (with_reducible refine L1.out.mono ?_)
  rintro e wx ⟨rfl, rfl⟩
  go_wp2_with fail
  (with_reducible refine L2.out.mono ?_)
  rintro e wx ⟨rfl, rfl⟩
  go_wp2_with fail
  (with_reducible refine F1.out.mono ?_)
  rintro e wx ⟨rfl, rfl⟩
  go_wp2_with fail
  (with_reducible refine F2.out.mono ?_)
  rintro e wx ⟨rfl, rfl⟩
  go_wp2_with fail
  (with_reducible refine B1.out.mono ?_)
  rintro e w1 ⟨u1, rfl, o1, b1⟩
  have O1 := Lib.hid o1
  have K1 := Lib.hid b1
  clear o1 b1
  go_wp2_with fail
  (with_reducible refine (B2.out _ K1.out).mono ?_)
  rintro e w2 ⟨u2, rfl, o2, b2⟩
  have SM := Lib.hid (NumBytes.same_any u1 u2 xs xs w2 _ _ (IR.of_own (own_below O1.out b2)) (IR.of_own o2) HP.out.at_.byt HP.out.at_.byt)
  rw [decide_eq_true rfl] at SM
  have K2 := Lib.hid (step_ K1.out b2)
  clear o2 b2
  go_wp2_with fail
  (with_reducible refine SM.out.mono ?_)
  rintro e wx ⟨rfl, rfl⟩
  go_wp2_with fail
  (with_reducible refine (S1.out _ K2.out).mono ?_)
  rintro e w3 ⟨u3, rfl, o3, b3⟩
  have O3 := Lib.hid o3
  have K3 := Lib.hid (step_ K2.out b3)
  clear o3 b3
  go_wp2_with fail
  (with_reducible refine (S2.out _ K3.out).mono ?_)
  rintro e w4 ⟨u4, rfl, o4, b4⟩
  have SI := Lib.hid (ints_same u3 u4 L L w4 _ _ (IR.of_own (own_below O3.out b4)) (IR.of_own o4))
  rw [decide_eq_true rfl] at SI
  have K4 := Lib.hid (step_ K3.out b4)
  clear o4 b4
  go_wp2_with fail
  (with_reducible refine SI.out.mono ?_)
  rintro e w5 ⟨rfl, d, rfl⟩
  have K5 := Lib.hid (below_drewN K4.out d)
  go_wp2
  go_ret
  exact ⟨rfl, K5.out⟩
/-- what a call does to a page's bytes -/
def opD (xs : List Int) (o : Po) : List Int := if o.kind % 8 = 5 then clearX xs o.slot else if o.kind % 8 = 7 then setN xs 0 8 o.lsn else if o.kind % 8 = 6 then xs else setX xs o.slot o.xs
theorem dat_b {xs : List Int} (h : Bytes xs) (N : Int) : Bytes (datX xs N) := by
  unfold datX
  split
  · exact dat_bytes h
  · exact Bytes.nil
theorem setE_b (xs : List Int) (N : Int) (k : Nat) : setE xs N k = 0 ∨ setE xs N k = 92 ∨ setE xs N k = 91 := by
  unfold setE
  split
  · split
    · exact .inl rfl
    · exact .inr (.inl rfl)
  · exact .inr (.inr rfl)
set_option maxRecDepth 100000 in
set_option maxHeartbeats 8000000 in
theorem does_any (w : World) (b r : Nat) (xs : List Int) (hp : Pw w b xs) (hd : Dw w r xs) (hne : b ≠ r) (o : Po) (ho : o.Ok) (A : Option Addr) (k c : Nat) (hk : o.xs.length = k) (hk2 : k ≤ 200)
    (hr : ∀ w', Fr (fun x => x = b ∨ x = r) w w' → IR w' w'.heap.size .u8 (.slice A k c) o.xs) :
    Calls Try.prog 13 #[.pointer (some ⟨b, 0, none⟩), .pointer (some ⟨r, 0, none⟩), .agg #[.int .u8 o.kind, .int .i64 o.slot, .slice A k c, .int .u64 o.lsn]] w fun e w' =>
      e = .returned (.bool true) ∧ Pw w' b (opD xs o) ∧ Dw w' r (opD xs o) ∧ Fr (fun x => x = b ∨ x = r) w w' := by
  have HNE := Lib.hid hne
  have HWF := Lib.hid hp.wf
  have HBY := Lib.hid hp.at_.byt
  have HBR := Lib.hid (show b < w.heap.size ∧ r < w.heap.size from ⟨hp.at_.box.lt, hd.lt⟩)
  obtain ⟨k8, hk8⟩ : ∃ k, k = o.kind % 8 := ⟨_, rfl⟩
  have hm8 : o.kind.tmod 8 = k8 := by rw [hk8]; exact Int.tmod_eq_emod_of_nonneg ho.kind.1
  have HOP := Lib.hid (show opD xs o = if k8 = 5 then clearX xs o.slot else if k8 = 7 then setN xs 0 8 o.lsn else if k8 = 6 then xs else setX xs o.slot o.xs by rw [hk8]; rfl)
  have HO := Lib.hid ho
  have HKL := Lib.hid hk
  have HRR := Lib.hid hr
  obtain ⟨CC, hCC⟩ : ∃ C : Array Value, C = #[.int .u8 o.kind, .int .i64 o.slot, .slice A k c, .int .u64 o.lsn] := ⟨_, rfl⟩
  obtain ⟨w1, hw1⟩ : ∃ w1, w.alloc (.cells #[.int .u8 o.kind, .int .i64 o.slot, .slice A k c, .int .u64 o.lsn] 34) = w1 := ⟨_, rfl⟩
  obtain ⟨ob, hob⟩ : ∃ ob, ob = w.heap.size := ⟨_, rfl⟩
  have BX := Lib.hid (show Box w1 ob #[.int .u8 o.kind, .int .i64 o.slot, .slice A k c, .int .u64 o.lsn] 34 by rw [← hw1, hob]; exact Box.new _ _ _)
  have HB1' := Lib.hid (show Below w.heap.size w w1 by rw [← hw1]; exact new_ (Below.refl _ _) _)
  have HP1 := Lib.hid (hp.later HB1'.out)
  have HD1 := Lib.hid (hd.later HB1'.out)
  have HOB := Lib.hid (show ob < w1.heap.size ∧ ¬ (ob = b ∨ ob = r) from ⟨BX.out.lt, by have := HBR.out; omega⟩)
  have K1 := Lib.hid (show w1.cell? ⟨ob, 1, none⟩ = some (.int .i64 o.slot) from BX.out.cell 1)
  have HFW1 := Lib.hid (Fr.of_below (S := fun x => x = b ∨ x = r) HB1'.out)
  have HOBE := Lib.hid hob
  clear hp hd hne ho hk hr hk8 hCC
  go_enter Try.func13, Try.ntmps13
  go_upto_region 1 with fail
  try rw [hw1]
  rw [← hob]
  clear hw1 hob
  have c0 := BX.out.cell 0
  have c1 := BX.out.cell 1
  have c2 := BX.out.cell 2
  have c3 := BX.out.cell 3
  by_cases h5 : k8 = 5
  · have d5 : (k8 == 5) = true := by rw [h5]; rfl
    have HOPX := Lib.hid (show opD xs o = clearX xs o.slot by rw [HOP.out, if_pos h5])
    clear h5 HOP
    go_upto_region 3 with fail
    clear c0 c1 c2 c3 d5
    refine wp_region_two (by kernel_rfl) (by kernel_rfl) 3 7 (by decide) (fun x => x = b ∨ x = r) (fun W => Pw W b xs) (fun W => Dw W r xs) (fun v W => v = .bool (there xs o.slot) ∧ Pw W b (clearX xs o.slot)) (fun v W => v = .bool (there xs o.slot) ∧ Dw W r (clearX xs o.slot)) [.pointer (some ⟨b, 0, none⟩), .pointer (some ⟨ob, 1, none⟩), .int .i64 o.slot, undef, .pointer (some ⟨r, 0, none⟩), .pointer (some ⟨ob, 1, none⟩), .int .i64 o.slot, undef, .bool true, .bool true] (HP1.out.drew) (HD1.out.drew) (fun vals => ?_) (fun vals W hfr h1 h2 hall => ?_) (by decide) (by decide)
    · simp only [ObL, Act.put, List.setIfInBounds_toArray, List.set_cons_succ, List.set_cons_zero]
      refine ⟨?_, ?_, ?_, ?_, ?_, ?_, ?_, ?_, ?_, ?_, trivial⟩
      · intro L W hL hk hC hw
        clear hw
        clear hL hC hk
        refine step_plain rfl ?_
        go_simp
        first | exact ⟨R2.same, F2.val (by decide) (by decide) rfl rfl⟩ | exact ⟨_, rfl, R2.same, F2.val (by decide) (by decide) rfl rfl⟩
      · intro L W hL hk hC hw
        clear hw
        clear hL hC hk
        refine step_plain rfl ?_
        go_simp
        first | exact ⟨R2.same, F2.val (by decide) (by decide) rfl rfl⟩ | exact ⟨_, rfl, R2.same, F2.val (by decide) (by decide) rfl rfl⟩
      · intro L W hL hk hC hw
        have f1 : vals 1 = .pointer (some ⟨ob, 1, none⟩) := F2.get (hw ⟨1, .data⟩ (by simp) rfl) (by decide) (by decide)
        clear hw
        have kc : W.cell? ⟨ob, 1, none⟩ = some (.int .i64 o.slot) := (hC.1.cell HOB.out.1 HOB.out.2).trans K1.out
        clear hL hC hk
        refine step_plain rfl ?_
        go_simp
        first | exact ⟨R2.same, F2.val (by decide) (by decide) rfl rfl⟩ | exact ⟨_, rfl, R2.same, F2.val (by decide) (by decide) rfl rfl⟩
      · intro L W hL hk hC hw
        have f0 : vals 0 = .pointer (some ⟨b, 0, none⟩) := F2.get (hw ⟨0, .data⟩ (by simp) rfl) (by decide) (by decide)
        have f2 : vals 2 = .int .i64 o.slot := F2.get (hw ⟨2, .data⟩ (by simp) rfl) (by decide) (by decide)
        clear hw
        have hA := hC.2.1 hk
        have CL := Lib.hid (clear_some W b xs hA o.slot)
        clear hL hC hk hA
        refine step_plain rfl ?_
        go_simp
        (with_reducible refine CL.out.mono ?_)
        rintro e w8 ⟨rfl, p8, f8⟩
        have RR : R2 3 7 (fun x => x = b ∨ x = r) (fun W => Pw W b xs) (fun W => Dw W r xs) (fun v W => v = .bool (there xs o.slot) ∧ Pw W b (clearX xs o.slot)) (fun v W => v = .bool (there xs o.slot) ∧ Dw W r (clearX xs o.slot)) 3 W w8 := ⟨f8.mono (fun x _ hx => .inl hx), fun h => absurd rfl h, fun _ h => h.fr f8 (fun e => HNE.out e.symm), fun h => absurd rfl h, fun _ v h => ⟨h.1, h.2.fr f8 (fun e => HNE.out e.symm)⟩⟩
        first | exact ⟨RR, F2.one ⟨rfl, p8⟩⟩ | exact ⟨_, rfl, RR, F2.one ⟨rfl, p8⟩⟩
      · intro L W hL hk hC hw
        clear hw
        clear hL hC hk
        refine step_plain rfl ?_
        go_simp
        first | exact ⟨R2.same, F2.val (by decide) (by decide) rfl rfl⟩ | exact ⟨_, rfl, R2.same, F2.val (by decide) (by decide) rfl rfl⟩
      · intro L W hL hk hC hw
        clear hw
        clear hL hC hk
        refine step_plain rfl ?_
        go_simp
        first | exact ⟨R2.same, F2.val (by decide) (by decide) rfl rfl⟩ | exact ⟨_, rfl, R2.same, F2.val (by decide) (by decide) rfl rfl⟩
      · intro L W hL hk hC hw
        have f5 : vals 5 = .pointer (some ⟨ob, 1, none⟩) := F2.get (hw ⟨5, .data⟩ (by simp) rfl) (by decide) (by decide)
        clear hw
        have kc : W.cell? ⟨ob, 1, none⟩ = some (.int .i64 o.slot) := (hC.1.cell HOB.out.1 HOB.out.2).trans K1.out
        clear hL hC hk
        refine step_plain rfl ?_
        go_simp
        first | exact ⟨R2.same, F2.val (by decide) (by decide) rfl rfl⟩ | exact ⟨_, rfl, R2.same, F2.val (by decide) (by decide) rfl rfl⟩
      · intro L W hL hk hC hw
        have f4 : vals 4 = .pointer (some ⟨r, 0, none⟩) := F2.get (hw ⟨4, .data⟩ (by simp) rfl) (by decide) (by decide)
        have f6 : vals 6 = .int .i64 o.slot := F2.get (hw ⟨6, .data⟩ (by simp) rfl) (by decide) (by decide)
        clear hw
        have hB := hC.2.2 hk
        have CL := Lib.hid (dw_clear W r xs hB HWF.out HBY.out o.slot)
        clear hL hC hk hB
        refine step_plain rfl ?_
        go_simp
        (with_reducible refine CL.out.mono ?_)
        rintro e w8 ⟨rfl, p8, f8⟩
        have RR : R2 3 7 (fun x => x = b ∨ x = r) (fun W => Pw W b xs) (fun W => Dw W r xs) (fun v W => v = .bool (there xs o.slot) ∧ Pw W b (clearX xs o.slot)) (fun v W => v = .bool (there xs o.slot) ∧ Dw W r (clearX xs o.slot)) 7 W w8 := ⟨f8.mono (fun x _ hx => .inr hx), fun _ h => h.fr f8 (fun e => HNE.out e), fun h => absurd rfl h, fun _ v h => ⟨h.1, h.2.fr f8 (fun e => HNE.out e)⟩, fun h => absurd rfl h⟩
        first | exact ⟨RR, F2.two (by decide) ⟨rfl, p8⟩⟩ | exact ⟨_, rfl, RR, F2.two (by decide) ⟨rfl, p8⟩⟩
      · intro L W hL hk hC hw
        have f3 := F2.out1 (hw ⟨3, .data⟩ (by simp) rfl)
        have f7 := F2.out2 (hw ⟨7, .data⟩ (by simp) rfl) (by decide)
        clear hw
        obtain ⟨g3, _⟩ := f3
        obtain ⟨g7, _⟩ := f7
        clear hL hC hk
        refine step_plain rfl ?_
        go_simp
        first | exact ⟨R2.same, F2.val (by decide) (by decide) rfl rfl⟩ | exact ⟨_, rfl, R2.same, F2.val (by decide) (by decide) rfl rfl⟩
      · intro L W hL hk hC hw
        have f8 : vals 8 = .bool true := F2.get (hw ⟨8, .data⟩ (by simp) rfl) (by decide) (by decide)
        clear hw
        clear hL hC hk
        refine step_plain rfl ?_
        go_simp
        first | exact ⟨R2.same, F2.val (by decide) (by decide) rfl rfl⟩ | exact ⟨_, rfl, R2.same, F2.val (by decide) (by decide) rfl rfl⟩
    · simp only [TL, Act.put, List.setIfInBounds_toArray, List.set_cons_succ, List.set_cons_zero]
      have PP := Lib.hid h1.2
      have DD := Lib.hid h2.2
      have FF := Lib.hid (HFW1.out.trans hfr)
      have f9 : vals 9 = .bool true := hall 9 (by decide) (by decide) (by decide)
      simp only [Nat.reduceAdd, f9]
      clear h1 h2 hall hfr f9
      go_wp2
      go_ret
      exact ⟨rfl, by rw [HOPX.out]; exact PP.out, by rw [HOPX.out]; exact DD.out, FF.out⟩
  have d5 : (k8 == 5) = false := by rw [beq_eq_false_iff_ne]; exact h5
  by_cases h6 : k8 = 6
  · have d6 : (k8 == 6) = true := by rw [h6]; rfl
    have HOPX := Lib.hid (show opD xs o = xs by rw [HOP.out, if_neg h5, if_neg (by omega), if_pos h6])
    have G1 := Lib.hid (get_some w1 b xs HP1.out o.slot)
    have G2 := Lib.hid (fun W (hW : Below w1.heap.size w1 W) => dw_get W r xs (HD1.out.later hW) HWF.out o.slot)
    have DB := Lib.hid (dat_b HBY.out o.slot)
    have HL64 := Lib.hid (show (datX xs o.slot).length ≤ 448 from by
      unfold datX
      split
      · rename_i ht
        have := dw_yes HWF.out ht
        obtain ⟨s, hs, hs4, hs0⟩ := this
        rw [hs, show ((s : Int)).toNat = s from rfl, dat_len HWF.out.w0.len (HWF.out.w0.fits s (in_cnt hs0))]
        have := HWF.out.w0.fits s (in_cnt hs0)
        omega
      · exact Nat.zero_le _)
    obtain ⟨Dt, hDt⟩ : ∃ D, D = datX xs o.slot := ⟨_, rfl⟩
    obtain ⟨th, hth⟩ : ∃ D, D = there xs o.slot := ⟨_, rfl⟩
    rw [← hDt] at G1 DB HL64
    rw [← hth] at G1
    have G2' := Lib.hid (fun W (hW : Below w1.heap.size w1 W) => by have := G2.out W hW; rw [← hDt, ← hth] at this; exact this)
    have dth : (th == th) = true := by cases th <;> rfl
    clear h5 h6 HOP G2 hDt hth
    go_wp2_with fail
    (with_reducible refine G1.out.mono ?_)
    rintro e w2 ⟨ua, rfl, oa, ba⟩
    have OA := Lib.hid oa
    have BA := Lib.hid ba
    have c1' : w2.cell? ⟨ob, 1, none⟩ = some (.int .i64 o.slot) := (ba.cell HOB.out.1).trans K1.out
    clear oa ba c0 c1 c2 c3
    go_wp2_with fail
    (with_reducible refine (G2'.out _ BA.out).mono ?_)
    rintro e wj ⟨ub, rfl, ob2, bb2⟩
    have SM := Lib.hid (NumBytes.same_any ua ub Dt Dt wj _ _ (IR.of_own (own_below OA.out bb2)) (IR.of_own ob2) DB.out DB.out)
    rw [decide_eq_true rfl] at SM
    have OJ := own_below OA.out bb2
    have BJ := Lib.hid (step_ BA.out bb2)
    obtain ⟨AR, cR, eR⟩ := own_slice' OJ
    subst eR
    obtain ⟨n, hn⟩ : ∃ n, n = Dt.length := ⟨_, rfl⟩
    obtain ⟨B1, hB1⟩ : ∃ B, B = w1.heap.size := ⟨_, rfl⟩
    have ROW := Lib.hid (show ∃ zs : List Int, zs.length = n ∧ wj.ownsRow B1 5 1 (.slice AR n cR) n (zs.map (.int .u8)) from ⟨Dt, hn.symm, by rw [hn, hB1]; exact OJ⟩)
    have HB1 := Lib.hid (show w.heap.size ≤ B1 by rw [hB1]; exact HB1'.out.size)
    have hn200 : n ≤ 448 := by rw [hn]; exact HL64.out
    have HPJ := Lib.hid (HP1.out.later BJ.out)
    have HDJ := Lib.hid (HD1.out.later BJ.out)
    have HFW := Lib.hid (HFW1.out.below BJ.out)
    rw [← hn] at SM ⊢
    clear ob2 bb2 OJ hn hB1 c1'
    go_wp2_with fail
    (with_reducible refine SM.out.mono ?_)
    rintro e wx ⟨rfl, rfl⟩
    go_wp2
    go_loopw [12] (fun iv wr => ∃ j : Nat, j ≤ n ∧ iv = .int .i64 j ∧ Hid (∃ zs : List Int, zs.length = n ∧ wr.ownsRow B1 5 1 (.slice AR n cR) n (zs.map (.int .u8))) ∧ Hid (Fr (fun x => w.heap.size ≤ x) wj wr)) (fun iv _ => n - (intOf iv).toNat)
    case atStart => exact ⟨0, Nat.zero_le _, rfl, ROW, Lib.hid (Fr.refl _ _)⟩
    case round =>
      obtain ⟨j, hj, rfl, HRW, HFJ⟩ := hrel
      clear ROW
      by_cases hlt : j < n
      · obtain ⟨zs, hz, ov⟩ := HRW.out
        obtain ⟨g, hg⟩ : ∃ g, AR = some ⟨g, 0, none⟩ := by
          rcases ov.2 with ⟨_, hn⟩ | ⟨g, cap, cur, e, _⟩
          · omega
          · injection e with e1; exact ⟨g, e1⟩
        subst hg
        have HG := Lib.hid (show w.heap.size ≤ g by have := (ov.lt g rfl).1; have := HB1.out; omega)
        have cj : wr.cell? ⟨g, j, none⟩ = some (.int .u8 (zs.getD j 0)) := by
          rw [ov.cellAt j (by omega)]
          simp [List.getD, List.getElem?_eq_getElem (show j < zs.length by omega)]
        have fj := ov.frozenAt j
        have b0 : (0 : Int) ≤ (j : Int) := by omega
        have b1' : (j : Int) < (n : Int) := by omega
        have OVj := Lib.hid ov
        have HZ := Lib.hid hz
        have HLT := Lib.hid hlt
        have HN2 := hn200
        generalize zs.getD j 0 = z at *
        clear ov hz hj hlt
        go_wp2
        have F9 := Lib.hid (Fr.setCell HFJ.out (p := ⟨g, j, none⟩) (.inl HG.out) (.int .u8 (bits BinOp.xor IntKind.u8 z 255)))
        have R9 := Lib.hid (show ∃ zs' : List Int, zs'.length = n ∧ (wr.setCell ⟨g, j, none⟩ (.int .u8 (bits BinOp.xor IntKind.u8 z 255))).ownsRow B1 5 1 (.slice (some ⟨g, 0, none⟩) n cR) n (zs'.map (.int .u8)) from ⟨zs.set j (bits BinOp.xor IntKind.u8 z 255), by rw [List.length_set]; exact HZ.out, by rw [List.map_set]; exact (OVj.out.stored j (.int .u8 (bits BinOp.xor IntKind.u8 z 255))).1⟩)
        clear cj fj
        go_roundw
        case rel => exact ⟨j + 1, by have := HLT.out; omega, by go_num, R9, F9⟩
        case measure => have := HLT.out; simp [intOf]; omega
      · have dj : ¬ (j : Int) < (n : Int) := by omega
        clear hj HRW
        have PF := Lib.hid (HPJ.out.fr HFJ.out (fun e => by have := HBR.out; omega))
        have DF := Lib.hid (HDJ.out.fr HFJ.out (fun e => by have := HBR.out; omega))
        have FF := Lib.hid (HFW.out.trans' HFJ.out (fun x hx hs => by omega))
        clear HFJ
        go_wp2
        go_ret
        exact ⟨rfl, by rw [HOPX.out]; exact PF.out, by rw [HOPX.out]; exact DF.out, FF.out⟩
  have d6 : (k8 == 6) = false := by rw [beq_eq_false_iff_ne]; exact h6
  by_cases h7 : k8 = 7
  · have d7 : (k8 == 7) = true := by rw [h7]; rfl
    have HOPX := Lib.hid (show opD xs o = setN xs 0 8 o.lsn by rw [HOP.out, if_neg h5, if_pos h7])
    have T1 := Lib.hid (stamp_some w1 b xs HP1.out o.lsn HO.out.lsn)
    have T2 := Lib.hid (fun W (hW : Fr (fun x => x = b) w1 W) => dw_stamp W r xs (HD1.out.fr hW (fun e => HNE.out e.symm)) HWF.out o.lsn HO.out.lsn)
    clear h5 h6 h7 HOP
    go_wp2_with fail
    (with_reducible refine T1.out.mono ?_)
    rintro e w2 ⟨rfl, p2, f2⟩
    have P2 := Lib.hid p2
    have F2 := Lib.hid f2
    have c3' : w2.cell? ⟨ob, 3, none⟩ = some (.int .u64 o.lsn) := (f2.cell HOB.out.1 (fun e => HOB.out.2 (.inl e))).trans (BX.out.cell 3)
    clear p2 f2 c0 c1 c2 c3
    go_wp2_with fail
    (with_reducible refine (T2.out _ F2.out).mono ?_)
    rintro e w3 ⟨rfl, p3, f3⟩
    have P3 := Lib.hid (P2.out.fr f3 HNE.out)
    have D3 := Lib.hid p3
    have F3 := Lib.hid ((HFW1.out.trans (F2.out.mono (fun x _ hx => .inl hx))).trans (f3.mono (fun x _ hx => .inr hx)))
    clear p3 f3 c3'
    go_wp2
    go_ret
    exact ⟨rfl, by rw [HOPX.out]; exact P3.out, by rw [HOPX.out]; exact D3.out, F3.out⟩
  · have d7 : (k8 == 7) = false := by rw [beq_eq_false_iff_ne]; exact h7
    have HOPX := Lib.hid (show opD xs o = setX xs o.slot o.xs by rw [HOP.out, if_neg h5, if_neg h7, if_neg h6])
    have LE := Lib.hid (NumBytes.lent_any (.slice A k c) o.xs w1 _ (HRR.out w1 HFW1.out) (by rw [HKL.out]; omega))
    clear h5 h6 h7 HOP
    go_wp2_with fail
    (with_reducible refine LE.out.mono ?_)
    rintro e w2 ⟨ua, rfl, oa, ba⟩
    rw [HKL.out] at oa
    obtain ⟨AR, cR, eR⟩ := own_slice' oa
    subst eR
    have OA := Lib.hid oa
    have BA := Lib.hid ba
    have SS := Lib.hid (set_own w2 b xs (HP1.out.later ba) o.slot w1.heap.size (by have := HBR.out; have := HB1'.out.size; omega) AR k cR o.xs HO.out.byt HKL.out oa)
    have c1' : w2.cell? ⟨ob, 1, none⟩ = some (.int .i64 o.slot) := (ba.cell HOB.out.1).trans K1.out
    have D2 := Lib.hid (HD1.out.later ba)
    have HFW2 := Lib.hid (HFW1.out.below ba)
    clear oa ba c0 c1 c2 c3 LE
    go_wp2_with fail
    (with_reducible refine SS.out.mono ?_)
    rintro e w3 ⟨rfl, p3, f3⟩
    have P3 := Lib.hid p3
    have F3 := Lib.hid f3
    have D3 := Lib.hid (D2.out.fr f3 (fun e => HNE.out e.symm))
    have HFW3 := Lib.hid (HFW2.out.trans (f3.mono (fun x _ hx => .inl hx)))
    have kk := (HOBE.out ▸ rfl : ob = w.heap.size)
    have q1 : w3.cell? ⟨ob, 1, none⟩ = some (.int .i64 o.slot) := (f3.cell (Nat.lt_of_lt_of_le HOB.out.1 BA.out.size) (fun e => HOB.out.2 (.inl e))).trans c1'
    have q2 : w3.cell? ⟨ob, 2, none⟩ = some (.slice A k c) := ((f3.cell (Nat.lt_of_lt_of_le HOB.out.1 BA.out.size) (fun e => HOB.out.2 (.inl e))).trans (BA.out.cell HOB.out.1)).trans (BX.out.cell 2)
    have DS := Lib.hid (dw_set w3 r xs D3.out HWF.out o.slot A k c o.xs HO.out.byt HKL.out (fun w' hf => HRR.out w' (HFW3.out.trans (hf.mono (fun x _ hx => .inr hx)))))
    have OA3 := Lib.hid (own_frS OA.out f3 (fun q hq hs => by have := (OA.out.lt q hq).1; have := HBR.out; have := HB1'.out.size; omega))
    clear p3 f3 c1' kk
    go_wp2_with fail
    (with_reducible refine DS.out.mono ?_)
    rintro e wj ⟨rfl, p4, f4⟩
    have HDJ := Lib.hid p4
    have HPJ := Lib.hid (P3.out.fr f4 HNE.out)
    have HFW := Lib.hid (HFW3.out.trans (f4.mono (fun x _ hx => .inr hx)))
    have OA4 := own_frS OA3.out f4 (fun q hq hs => by have := (OA3.out.lt q hq).1; have := HBR.out; have := HB1'.out.size; omega)
    obtain ⟨n, hn⟩ : ∃ n, n = k := ⟨_, rfl⟩
    obtain ⟨B1, hB1⟩ : ∃ B, B = w1.heap.size := ⟨_, rfl⟩
    have ROW := Lib.hid (show ∃ zs : List Int, zs.length = n ∧ wj.ownsRow B1 5 1 (.slice AR n cR) n (zs.map (.int .u8)) from ⟨o.xs, by rw [hn]; exact HKL.out, by rw [hn, hB1]; exact OA4⟩)
    have HB1 := Lib.hid (show w.heap.size ≤ B1 by rw [hB1]; exact HB1'.out.size)
    have hn200 : n ≤ 200 := by rw [hn]; exact hk2
    obtain ⟨E, hE⟩ : ∃ E, E = setE xs o.slot k := ⟨_, rfl⟩
    have wE : IntKind.i64.wrap E = E := by
      have := setE_b xs o.slot k
      rw [← hE] at this
      exact IntWalk.i64_in _ (by omega)
    rw [← hE]
    subst hn
    clear p4 f4 OA4 hB1 q1 q2 hE
    (
      go_wp2
      go_loopw [16] (fun iv wr => ∃ j : Nat, j ≤ n ∧ iv = .int .i64 j ∧ Hid (∃ zs : List Int, zs.length = n ∧ wr.ownsRow B1 5 1 (.slice AR n cR) n (zs.map (.int .u8))) ∧ Hid (Fr (fun x => w.heap.size ≤ x) wj wr)) (fun iv _ => n - (intOf iv).toNat)
      case atStart => exact ⟨0, Nat.zero_le _, rfl, ROW, Lib.hid (Fr.refl _ _)⟩
      case round =>
        obtain ⟨j, hj, rfl, HRW, HFJ⟩ := hrel
        clear ROW
        by_cases hlt : j < n
        · obtain ⟨zs, hz, ov⟩ := HRW.out
          obtain ⟨g, hg⟩ : ∃ g, AR = some ⟨g, 0, none⟩ := by
            rcases ov.2 with ⟨_, hn⟩ | ⟨g, cap, cur, e, _⟩
            · omega
            · injection e with e1; exact ⟨g, e1⟩
          subst hg
          have HG := Lib.hid (show w.heap.size ≤ g by have := (ov.lt g rfl).1; have := HB1.out; omega)
          have cj : wr.cell? ⟨g, j, none⟩ = some (.int .u8 (zs.getD j 0)) := by
            rw [ov.cellAt j (by omega)]
            simp [List.getD, List.getElem?_eq_getElem (show j < zs.length by omega)]
          have fj := ov.frozenAt j
          have b0 : (0 : Int) ≤ (j : Int) := by omega
          have b1' : (j : Int) < (n : Int) := by omega
          have OVj := Lib.hid ov
          have HZ := Lib.hid hz
          have HLT := Lib.hid hlt
          have HN2 := hn200
          generalize zs.getD j 0 = z at *
          clear ov hz hj hlt
          go_wp2
          have F9 := Lib.hid (Fr.setCell HFJ.out (p := ⟨g, j, none⟩) (.inl HG.out) (.int .u8 (bits BinOp.xor IntKind.u8 z 255)))
          have R9 := Lib.hid (show ∃ zs' : List Int, zs'.length = n ∧ (wr.setCell ⟨g, j, none⟩ (.int .u8 (bits BinOp.xor IntKind.u8 z 255))).ownsRow B1 5 1 (.slice (some ⟨g, 0, none⟩) n cR) n (zs'.map (.int .u8)) from ⟨zs.set j (bits BinOp.xor IntKind.u8 z 255), by rw [List.length_set]; exact HZ.out, by rw [List.map_set]; exact (OVj.out.stored j (.int .u8 (bits BinOp.xor IntKind.u8 z 255))).1⟩)
          clear cj fj
          go_roundw
          case rel => exact ⟨j + 1, by have := HLT.out; omega, by go_num, R9, F9⟩
          case measure => have := HLT.out; simp [intOf]; omega
        · have dj : ¬ (j : Int) < (n : Int) := by omega
          clear hj HRW
          have PF := Lib.hid (HPJ.out.fr HFJ.out (fun e => by have := HBR.out; omega))
          have DF := Lib.hid (HDJ.out.fr HFJ.out (fun e => by have := HBR.out; omega))
          have FF := Lib.hid (HFW.out.trans' HFJ.out (fun x hx hs => by omega))
          clear HFJ
          go_wp2
          go_ret
          exact ⟨rfl, by rw [HOPX.out]; exact PF.out, by rw [HOPX.out]; exact DF.out, FF.out⟩
    )
end Go.Proofs.Ythbbnebanmpcjaa.Pg
