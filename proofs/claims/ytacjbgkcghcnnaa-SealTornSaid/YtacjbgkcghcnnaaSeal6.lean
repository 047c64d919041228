import Derived.Test.YtacjbgkcghcnnaaSeal5
/- Greatest. -/
namespace Go.Proofs.Ytacjbgkcghcnnaa.Seal
open Go.ChangeShapes Go.WideShapes Go.ChangeAt Go.RowKit Go.IntWalk Go.Shelf Go.Proofs.NumMath Go.Proofs.Mem NumBytes
set_option linter.unusedVariables false
attribute [local go_sem] Oper.semAt_some
def mx (m x : Int) : Int := if m ≤ x then x else m
def most (l : List Int) : Int := l.foldl mx 0
theorem most_snoc (l : List Int) (x : Int) : most (l ++ [x]) = mx (most l) x := by simp [most]
theorem most_nonneg (l : List Int) : 0 ≤ most l := by
  unfold most
  suffices h : ∀ (l : List Int) (a : Int), 0 ≤ a → 0 ≤ l.foldl mx a from h l 0 (Int.le_refl _)
  intro l
  induction l with
  | nil => intro a h; exact h
  | cons x l ih => intro a h; exact ih _ (by unfold mx; split <;> omega)
def GrI (base b3 : Nat) (w0 : World) (pre : List Int) (W : World) : Prop := Box W b3 #[.int .u64 (most pre)] 23 ∧ Fr (fun k => k = b3 ∨ base ≤ k) w0 W
theorem grI_own (base b3 : Nat) (w0 : World) : OwnFrom base (GrI base b3 w0) :=
  OwnFrom.and (ownFrom_sc fun s A B h sc => h.sc sc) (ownFrom_fr fun k hk => .inr hk)
set_option maxRecDepth 100000 in
set_option maxHeartbeats 8000000 in
theorem greatest_any (w : World) (B : Nat) (v : Value) (vs : Sects) (hv : SR w B v vs) (hB : B ≤ w.heap.size) :
    Calls Try.prog 16 #[v] w fun e w' => e = .returned (.int .u64 (most (stampsOf vs))) ∧ Below w.heap.size w w' := by
  obtain ⟨A, c, rfl, hlc, hcm⟩ := hv.form
  unfold maxLen at hcm
  have HV := Lib.hid hv
  clear hv
  refine (callsIn_wide (n := 3)).1 ?_
  refine callsIn_of_wp_marks Try.func16 rfl trivial ?_ rfl
  simp only [Try.ntmps16, List.size_toArray, List.length_cons, List.length_nil, Nat.reduceAdd, Nat.reduceSub, Array.replicate_succ, Array.replicate_zero, List.push_toArray, List.append_toArray, List.nil_append, List.cons_append]
  gi_wp2_with (refine ⟨trivial, ?_⟩; gi_at_call 23; refine (stamps_in Fence.wide _ trivial rfl _ _ _ _).mono ?_; rintro e w' ⟨rfl, rfl⟩)
  obtain ⟨w0, hw0⟩ : ∃ w0, ((w.alloc (.cells #[.int .u64 0] 23)).alloc (.cells #[.slice A vs.length c] 27)) = w0 := ⟨_, rfl⟩
  have z3 : Box w0 w.heap.size #[.int .u64 0] 23 := by rw [← hw0]; exact (Box.new _ _ _).alloc _
  have z4 : Box w0 (w.heap.size + 1) #[.slice A vs.length c] 27 := by
    rw [← hw0]; have := Box.new (w.alloc (.cells #[.int .u64 0] 23)) #[.slice A vs.length c] 27; rwa [World.size_alloc] at this
  have hs0 : w0.heap.size = w.heap.size + 1 + 1 := by rw [← hw0]; simp
  have hb0 : Below w.heap.size w w0 := by rw [← hw0]; exact new_ (new_ (Below.refl _ _) _) _
  rw [hw0]
  have HS0 := Lib.hid hs0
  have HB0 := Lib.hid hb0
  clear hw0 hs0 hb0
  refine wpIn_rangeFunc_ownF rfl (by omega) (gf := 26) (lb := #[.pointer (some ⟨w.heap.size + 1, 0, none⟩)]) rfl trivial (enters_of Try.func26 (by kernel_rfl) rfl)
    (stamps_stops (w.heap.size + 1) (fun k => k = w.heap.size ∨ w0.heap.size ≤ k) _ vs w.heap.size (by have := HS0.out; omega) (fun k hk => by have := HS0.out; omega) w0 (z4.cell 0) ((HV.out.keep (fun p hp => HB0.out.cell (by omega))) |> fun h => sr_more h hB) (by have := HS0.out; omega)) frK_t (frK_b (fun k hk => .inr hk)) (Below.refl _ _) (fun _ => rfl)
    (GrI w0.heap.size w.heap.size w0) (fun _ _ _ => False) (grI_own _ _ _) (fun _ _ _ _ _ hs _ _ => hs)
    ⟨z3, Fr.refl _ _⟩
    (fun x : Int => { tmps := #[.slice A vs.length c, undef, .int .u64 0, .pointer (some ⟨w.heap.size, 0, none⟩), .int .u64 x, .slice A vs.length c, .func (.func 26) #[] #[.pointer (some ⟨w.heap.size + 1, 0, none⟩)], .int .u64 x, undef, undef, undef, undef], defers := [] }) ?assign ?body ?done ?stop
  case assign =>
    intro l x W K hK
    gi_wp2
    exact hK
  case body =>
    rintro l pre x W ⟨hbx, hfr⟩ hlt
    have c3 : W.cell? ⟨w.heap.size, 0, none⟩ = some (.int .u64 (most pre)) := hbx.cell 0
    have f3 := hbx.frozen 0
    have BX := Lib.hid hbx
    have FR := Lib.hid hfr
    have MS := Lib.hid (most_snoc pre x)
    have hm0 := most_nonneg pre
    obtain ⟨m, hm⟩ : ∃ m, most pre = m := ⟨_, rfl⟩
    rw [hm] at c3 MS BX hm0
    clear hbx hfr hm
    by_cases hle : m ≤ x
    · have HX := Lib.hid (show mx m x = x by unfold mx; rw [if_pos hle])
      gi_wp2
      all_goals refine ⟨KeepsOthers.setCell _ _ _, (Fr.refl _ _).setCell (.inl (.inl rfl)) _, ?_, FR.out.trans ((Fr.refl _ _).setCell (.inl (.inl rfl)) _)⟩
      all_goals rw [MS.out, HX.out]
      all_goals first
        | exact BX.out.set_ 0 (.int .u64 x)
        | (obtain rfl : x = m := (by omega); exact BX.out.set_ 0 (.int .u64 x))
        | (exfalso; omega)
    · have HX := Lib.hid (show mx m x = m by unfold mx; rw [if_neg hle])
      gi_wp2
      all_goals refine ⟨KeepsOthers.setCell _ _ _, (Fr.refl _ _).setCell (.inl (.inl rfl)) _, ?_, FR.out.trans ((Fr.refl _ _).setCell (.inl (.inl rfl)) _)⟩
      all_goals rw [MS.out, HX.out]
      all_goals first
        | exact BX.out.set_ 0 (.int .u64 m)
        | (obtain rfl : x = m := (by omega); exact BX.out.set_ 0 (.int .u64 x))
        | (exfalso; omega)
  case done =>
    rintro D ys W hD rfl ⟨hbx, hfr⟩ hK
    have c3 : W.cell? ⟨w.heap.size, 0, none⟩ = some (.int .u64 (most (stampsOf vs))) := hbx.cell 0
    gi_wp2
    refine ⟨by simp, .inl ⟨_, _, rfl, run_takeDeferred hK, ?_⟩⟩
    refine ⟨_, results_tmp rfl _ _ _, rfl, ?_⟩
    exact (HB0.out.trans (hfr.to_below (fun k hk => by have := HS0.out; omega) HB0.out.size)).trans (belowK_b (w := w0) HB0.out.size W D _ _ hD hK rfl rfl)
  case stop =>
    rintro D c pre W _ _ h _
    exact h.elim
end Go.Proofs.Ytacjbgkcghcnnaa.Seal
