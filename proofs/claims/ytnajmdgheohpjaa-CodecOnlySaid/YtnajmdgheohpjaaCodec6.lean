import Derived.Test.YtnajmdgheohpjaaCodec5
import Derived.Test.YtnajmdgheohpjaaBox
import Derived.Test.YtnajmdgheohpjaaEach6
/- A request as bytes -/
namespace Go.Proofs.Ytnajmdgheohpjaa.Codec
open Go.ChangeShapes Go.WideShapes Go.ChangeAt Go.RowKit Go.IntWalk Go.Proofs.NumMath Go.Proofs.Mem NumBytes Go.Proofs.Each
set_option linter.unusedVariables false
set_option maxRecDepth 100000 in
set_option maxHeartbeats 8000000 in
theorem ask_any (r : Rq) (h : r.Ok) (w : World) : Calls Try.prog 12 #[.agg (cellsQ r)] w fun e w' => ∃ u, e = .returned u ∧ IR w' w'.heap.size .u8 u (askB r) ∧ Below w.heap.size w w' := by
  obtain ⟨⟨lkd, ukd⟩, ⟨ln, un⟩, ⟨lk, uk⟩, ⟨lwho, uwho⟩, ⟨lwhom, uwhom⟩, ⟨lwhat, uwhat⟩, ⟨lid, uid⟩, ⟨lam, uam⟩, ⟨lpr, upr⟩⟩ := h
  obtain ⟨kd, n, k, who, whom, what, id, am, pr⟩ := r
  dsimp only at *
  unfold cellsQ askB
  dsimp only
  have bx := Box.new w #[.int .u8 kd, .int .u32 n, .int .u8 k, .int .u32 who, .int .u32 whom, .int .u32 what, .int .u32 id, .int .u64 am, .int .u64 pr] 27
  go_enter Try.func12, Try.ntmps12
  go_wp2
  refine wp_region_ob (by kernel_rfl) (by kernel_rfl) [(fun v _ => v = Value.pointer (some ⟨w.heap.size, 0, none⟩)), (fun v _ => v = Value.int .u8 kd), (fun v _ => v = Value.int .u64 kd), (fun v W => IR W W.heap.size .u8 v (putS kd 1)), (fun v _ => v = Value.pointer (some ⟨w.heap.size, 1, none⟩)), (fun v _ => v = Value.int .u32 n), (fun v _ => v = Value.int .u64 n), (fun v W => IR W W.heap.size .u8 v (putS n 4)), (fun v _ => v = Value.pointer (some ⟨w.heap.size, 2, none⟩)), (fun v _ => v = Value.pointer (some ⟨w.heap.size, 2, none⟩)), (fun v _ => v = Value.int .u8 k), (fun v _ => v = Value.int .u64 k), (fun v W => IR W W.heap.size .u8 v (putS k 1)), (fun v _ => v = Value.pointer (some ⟨w.heap.size, 2, none⟩)), (fun v _ => v = Value.pointer (some ⟨w.heap.size, 3, none⟩)), (fun v _ => v = Value.int .u32 who), (fun v _ => v = Value.int .u64 who), (fun v W => IR W W.heap.size .u8 v (putS who 4)), (fun v _ => v = Value.pointer (some ⟨w.heap.size, 2, none⟩)), (fun v _ => v = Value.pointer (some ⟨w.heap.size, 4, none⟩)), (fun v _ => v = Value.int .u32 whom), (fun v _ => v = Value.int .u64 whom), (fun v W => IR W W.heap.size .u8 v (putS whom 4)), (fun v _ => v = Value.pointer (some ⟨w.heap.size, 2, none⟩)), (fun v _ => v = Value.pointer (some ⟨w.heap.size, 5, none⟩)), (fun v _ => v = Value.int .u32 what), (fun v _ => v = Value.int .u64 what), (fun v W => IR W W.heap.size .u8 v (putS what 4)), (fun v _ => v = Value.pointer (some ⟨w.heap.size, 2, none⟩)), (fun v _ => v = Value.pointer (some ⟨w.heap.size, 6, none⟩)), (fun v _ => v = Value.int .u32 id), (fun v _ => v = Value.int .u64 id), (fun v W => IR W W.heap.size .u8 v (putS id 4)), (fun v _ => v = Value.pointer (some ⟨w.heap.size, 2, none⟩)), (fun v _ => v = Value.pointer (some ⟨w.heap.size, 7, none⟩)), (fun v _ => v = Value.int .u64 am), (fun v W => IR W W.heap.size .u8 v (putS am 8)), (fun v _ => v = Value.pointer (some ⟨w.heap.size, 2, none⟩)), (fun v _ => v = Value.pointer (some ⟨w.heap.size, 8, none⟩)), (fun v _ => v = Value.int .u64 pr), (fun v W => IR W W.heap.size .u8 v (putS pr 8)), (fun v W => SRF W v (putS kd 1 ++ (putS n 4 ++ (putS k 1 ++ (putS who 4 ++ (putS whom 4 ++ (putS what 4 ++ (putS id 4 ++ (putS am 8 ++ (putS pr 8)))))))))), (fun v W => IR W W.heap.size .u8 v (putS kd 1 ++ (putS n 4 ++ (putS k 1 ++ (putS who 4 ++ (putS whom 4 ++ (putS what 4 ++ (putS id 4 ++ (putS am 8 ++ (putS pr 8)))))))))), (fun v W => IR W W.heap.size .u8 v (putS kd 1 ++ (putS n 4 ++ (putS k 1 ++ (putS who 4 ++ (putS whom 4 ++ (putS what 4 ++ (putS id 4 ++ (putS am 8 ++ (putS pr 8))))))))))] ⟨stays_eq _, stays_eq _, stays_eq _, stays_IR _ _, stays_eq _, stays_eq _, stays_eq _, stays_IR _ _, stays_eq _, stays_eq _, stays_eq _, stays_eq _, stays_IR _ _, stays_eq _, stays_eq _, stays_eq _, stays_eq _, stays_IR _ _, stays_eq _, stays_eq _, stays_eq _, stays_eq _, stays_IR _ _, stays_eq _, stays_eq _, stays_eq _, stays_eq _, stays_IR _ _, stays_eq _, stays_eq _, stays_eq _, stays_eq _, stays_IR _ _, stays_eq _, stays_eq _, stays_eq _, stays_IR _ _, stays_eq _, stays_eq _, stays_eq _, stays_IR _ _, stays_SRF _, stays_IR _ _, stays_IR _ _, trivial⟩ (fun vals => ?_) (fun vals W hbW hall => ?_)
  · simp only [ObF, Act.put, List.setIfInBounds_toArray, List.set_cons_succ, List.set_cons_zero]
    refine ⟨?_, ?_, ?_, ?_, ?_, ?_, ?_, ?_, ?_, ?_, ?_, ?_, ?_, ?_, ?_, ?_, ?_, ?_, ?_, ?_, ?_, ?_, ?_, ?_, ?_, ?_, ?_, ?_, ?_, ?_, ?_, ?_, ?_, ?_, ?_, ?_, ?_, ?_, ?_, ?_, ?_, ?_, ?_, ?_, trivial⟩
    · intro W hbW hw
      clear hw
      refine step_plain rfl ?_
      go_simp
      (first | exact Below.refl _ _ | exact ⟨Below.refl _ _, rfl⟩ | exact ⟨_, rfl, Below.refl _ _, rfl⟩)
    · intro W hbW hw
      have f0 : vals 0 = Value.pointer (some ⟨w.heap.size, 0, none⟩) := hw ⟨0, .data⟩ (by simp) rfl
      clear hw
      refine step_plain rfl ?_
      have cc : W.cell? ⟨w.heap.size, 0, none⟩ = some (.int .u8 kd) := (bx.later hbW).cell 0
      go_simp
      (first | exact Below.refl _ _ | exact ⟨Below.refl _ _, rfl⟩ | exact ⟨_, rfl, Below.refl _ _, rfl⟩)
    · intro W hbW hw
      have f1 : vals 1 = Value.int .u8 kd := hw ⟨1, .data⟩ (by simp) rfl
      clear hw
      refine step_plain rfl ?_
      have hwr : IntKind.u64.wrap kd = kd := by rw [IntKind.wrap_u64]; omega
      go_simp
      (first | exact Below.refl _ _ | exact ⟨Below.refl _ _, rfl⟩ | exact ⟨_, rfl, Below.refl _ _, rfl⟩)
    · intro W hbW hw
      have f2 : vals 2 = Value.int .u64 kd := hw ⟨2, .data⟩ (by simp) rfl
      clear hw
      refine step_plain rfl ?_
      go_simp
      refine (put_any kd 1 lkd (by omega) (by omega) (by omega) _).mono ?_
      rintro e W1 ⟨v, rfl, hown, hbl⟩
      exact ⟨hbl, IR.of_own hown⟩
    · intro W hbW hw
      clear hw
      refine step_plain rfl ?_
      go_simp
      (first | exact Below.refl _ _ | exact ⟨Below.refl _ _, rfl⟩ | exact ⟨_, rfl, Below.refl _ _, rfl⟩)
    · intro W hbW hw
      have f4 : vals 4 = Value.pointer (some ⟨w.heap.size, 1, none⟩) := hw ⟨4, .data⟩ (by simp) rfl
      clear hw
      refine step_plain rfl ?_
      have cc : W.cell? ⟨w.heap.size, 1, none⟩ = some (.int .u32 n) := (bx.later hbW).cell 1
      go_simp
      (first | exact Below.refl _ _ | exact ⟨Below.refl _ _, rfl⟩ | exact ⟨_, rfl, Below.refl _ _, rfl⟩)
    · intro W hbW hw
      have f5 : vals 5 = Value.int .u32 n := hw ⟨5, .data⟩ (by simp) rfl
      clear hw
      refine step_plain rfl ?_
      have hwr : IntKind.u64.wrap n = n := by rw [IntKind.wrap_u64]; omega
      go_simp
      (first | exact Below.refl _ _ | exact ⟨Below.refl _ _, rfl⟩ | exact ⟨_, rfl, Below.refl _ _, rfl⟩)
    · intro W hbW hw
      have f6 : vals 6 = Value.int .u64 n := hw ⟨6, .data⟩ (by simp) rfl
      have f3 : IR W W.heap.size .u8 (vals 3) (putS kd 1) := hw ⟨3, .chain⟩ (by simp) rfl
      clear hw
      refine step_plain rfl ?_
      go_simp
      refine (put_any n 4 ln (by omega) (by omega) (by omega) _).mono ?_
      rintro e W1 ⟨v, rfl, hown, hbl⟩
      exact ⟨hbl, IR.of_own hown⟩
    · intro W hbW hw
      clear hw
      refine step_plain rfl ?_
      go_simp
      (first | exact Below.refl _ _ | exact ⟨Below.refl _ _, rfl⟩ | exact ⟨_, rfl, Below.refl _ _, rfl⟩)
    · intro W hbW hw
      have f8 : vals 8 = Value.pointer (some ⟨w.heap.size, 2, none⟩) := hw ⟨8, .data⟩ (by simp) rfl
      clear hw
      refine step_plain rfl ?_
      go_simp
      (first | exact Below.refl _ _ | exact ⟨Below.refl _ _, rfl⟩ | exact ⟨_, rfl, Below.refl _ _, rfl⟩)
    · intro W hbW hw
      have f9 : vals 9 = Value.pointer (some ⟨w.heap.size, 2, none⟩) := hw ⟨9, .data⟩ (by simp) rfl
      clear hw
      refine step_plain rfl ?_
      have cc : W.cell? ⟨w.heap.size, 2, none⟩ = some (.int .u8 k) := (bx.later hbW).cell 2
      go_simp
      (first | exact Below.refl _ _ | exact ⟨Below.refl _ _, rfl⟩ | exact ⟨_, rfl, Below.refl _ _, rfl⟩)
    · intro W hbW hw
      have f10 : vals 10 = Value.int .u8 k := hw ⟨10, .data⟩ (by simp) rfl
      clear hw
      refine step_plain rfl ?_
      have hwr : IntKind.u64.wrap k = k := by rw [IntKind.wrap_u64]; omega
      go_simp
      (first | exact Below.refl _ _ | exact ⟨Below.refl _ _, rfl⟩ | exact ⟨_, rfl, Below.refl _ _, rfl⟩)
    · intro W hbW hw
      have f11 : vals 11 = Value.int .u64 k := hw ⟨11, .data⟩ (by simp) rfl
      have f7 : IR W W.heap.size .u8 (vals 7) (putS n 4) := hw ⟨7, .chain⟩ (by simp) rfl
      clear hw
      refine step_plain rfl ?_
      go_simp
      refine (put_any k 1 lk (by omega) (by omega) (by omega) _).mono ?_
      rintro e W1 ⟨v, rfl, hown, hbl⟩
      exact ⟨hbl, IR.of_own hown⟩
    · intro W hbW hw
      clear hw
      refine step_plain rfl ?_
      go_simp
      (first | exact Below.refl _ _ | exact ⟨Below.refl _ _, rfl⟩ | exact ⟨_, rfl, Below.refl _ _, rfl⟩)
    · intro W hbW hw
      have f13 : vals 13 = Value.pointer (some ⟨w.heap.size, 2, none⟩) := hw ⟨13, .data⟩ (by simp) rfl
      clear hw
      refine step_plain rfl ?_
      go_simp
      (first | exact Below.refl _ _ | exact ⟨Below.refl _ _, rfl⟩ | exact ⟨_, rfl, Below.refl _ _, rfl⟩)
    · intro W hbW hw
      have f14 : vals 14 = Value.pointer (some ⟨w.heap.size, 3, none⟩) := hw ⟨14, .data⟩ (by simp) rfl
      clear hw
      refine step_plain rfl ?_
      have cc : W.cell? ⟨w.heap.size, 3, none⟩ = some (.int .u32 who) := (bx.later hbW).cell 3
      go_simp
      (first | exact Below.refl _ _ | exact ⟨Below.refl _ _, rfl⟩ | exact ⟨_, rfl, Below.refl _ _, rfl⟩)
    · intro W hbW hw
      have f15 : vals 15 = Value.int .u32 who := hw ⟨15, .data⟩ (by simp) rfl
      clear hw
      refine step_plain rfl ?_
      have hwr : IntKind.u64.wrap who = who := by rw [IntKind.wrap_u64]; omega
      go_simp
      (first | exact Below.refl _ _ | exact ⟨Below.refl _ _, rfl⟩ | exact ⟨_, rfl, Below.refl _ _, rfl⟩)
    · intro W hbW hw
      have f16 : vals 16 = Value.int .u64 who := hw ⟨16, .data⟩ (by simp) rfl
      have f12 : IR W W.heap.size .u8 (vals 12) (putS k 1) := hw ⟨12, .chain⟩ (by simp) rfl
      clear hw
      refine step_plain rfl ?_
      go_simp
      refine (put_any who 4 lwho (by omega) (by omega) (by omega) _).mono ?_
      rintro e W1 ⟨v, rfl, hown, hbl⟩
      exact ⟨hbl, IR.of_own hown⟩
    · intro W hbW hw
      clear hw
      refine step_plain rfl ?_
      go_simp
      (first | exact Below.refl _ _ | exact ⟨Below.refl _ _, rfl⟩ | exact ⟨_, rfl, Below.refl _ _, rfl⟩)
    · intro W hbW hw
      have f18 : vals 18 = Value.pointer (some ⟨w.heap.size, 2, none⟩) := hw ⟨18, .data⟩ (by simp) rfl
      clear hw
      refine step_plain rfl ?_
      go_simp
      (first | exact Below.refl _ _ | exact ⟨Below.refl _ _, rfl⟩ | exact ⟨_, rfl, Below.refl _ _, rfl⟩)
    · intro W hbW hw
      have f19 : vals 19 = Value.pointer (some ⟨w.heap.size, 4, none⟩) := hw ⟨19, .data⟩ (by simp) rfl
      clear hw
      refine step_plain rfl ?_
      have cc : W.cell? ⟨w.heap.size, 4, none⟩ = some (.int .u32 whom) := (bx.later hbW).cell 4
      go_simp
      (first | exact Below.refl _ _ | exact ⟨Below.refl _ _, rfl⟩ | exact ⟨_, rfl, Below.refl _ _, rfl⟩)
    · intro W hbW hw
      have f20 : vals 20 = Value.int .u32 whom := hw ⟨20, .data⟩ (by simp) rfl
      clear hw
      refine step_plain rfl ?_
      have hwr : IntKind.u64.wrap whom = whom := by rw [IntKind.wrap_u64]; omega
      go_simp
      (first | exact Below.refl _ _ | exact ⟨Below.refl _ _, rfl⟩ | exact ⟨_, rfl, Below.refl _ _, rfl⟩)
    · intro W hbW hw
      have f21 : vals 21 = Value.int .u64 whom := hw ⟨21, .data⟩ (by simp) rfl
      have f17 : IR W W.heap.size .u8 (vals 17) (putS who 4) := hw ⟨17, .chain⟩ (by simp) rfl
      clear hw
      refine step_plain rfl ?_
      go_simp
      refine (put_any whom 4 lwhom (by omega) (by omega) (by omega) _).mono ?_
      rintro e W1 ⟨v, rfl, hown, hbl⟩
      exact ⟨hbl, IR.of_own hown⟩
    · intro W hbW hw
      clear hw
      refine step_plain rfl ?_
      go_simp
      (first | exact Below.refl _ _ | exact ⟨Below.refl _ _, rfl⟩ | exact ⟨_, rfl, Below.refl _ _, rfl⟩)
    · intro W hbW hw
      have f23 : vals 23 = Value.pointer (some ⟨w.heap.size, 2, none⟩) := hw ⟨23, .data⟩ (by simp) rfl
      clear hw
      refine step_plain rfl ?_
      go_simp
      (first | exact Below.refl _ _ | exact ⟨Below.refl _ _, rfl⟩ | exact ⟨_, rfl, Below.refl _ _, rfl⟩)
    · intro W hbW hw
      have f24 : vals 24 = Value.pointer (some ⟨w.heap.size, 5, none⟩) := hw ⟨24, .data⟩ (by simp) rfl
      clear hw
      refine step_plain rfl ?_
      have cc : W.cell? ⟨w.heap.size, 5, none⟩ = some (.int .u32 what) := (bx.later hbW).cell 5
      go_simp
      (first | exact Below.refl _ _ | exact ⟨Below.refl _ _, rfl⟩ | exact ⟨_, rfl, Below.refl _ _, rfl⟩)
    · intro W hbW hw
      have f25 : vals 25 = Value.int .u32 what := hw ⟨25, .data⟩ (by simp) rfl
      clear hw
      refine step_plain rfl ?_
      have hwr : IntKind.u64.wrap what = what := by rw [IntKind.wrap_u64]; omega
      go_simp
      (first | exact Below.refl _ _ | exact ⟨Below.refl _ _, rfl⟩ | exact ⟨_, rfl, Below.refl _ _, rfl⟩)
    · intro W hbW hw
      have f26 : vals 26 = Value.int .u64 what := hw ⟨26, .data⟩ (by simp) rfl
      have f22 : IR W W.heap.size .u8 (vals 22) (putS whom 4) := hw ⟨22, .chain⟩ (by simp) rfl
      clear hw
      refine step_plain rfl ?_
      go_simp
      refine (put_any what 4 lwhat (by omega) (by omega) (by omega) _).mono ?_
      rintro e W1 ⟨v, rfl, hown, hbl⟩
      exact ⟨hbl, IR.of_own hown⟩
    · intro W hbW hw
      clear hw
      refine step_plain rfl ?_
      go_simp
      (first | exact Below.refl _ _ | exact ⟨Below.refl _ _, rfl⟩ | exact ⟨_, rfl, Below.refl _ _, rfl⟩)
    · intro W hbW hw
      have f28 : vals 28 = Value.pointer (some ⟨w.heap.size, 2, none⟩) := hw ⟨28, .data⟩ (by simp) rfl
      clear hw
      refine step_plain rfl ?_
      go_simp
      (first | exact Below.refl _ _ | exact ⟨Below.refl _ _, rfl⟩ | exact ⟨_, rfl, Below.refl _ _, rfl⟩)
    · intro W hbW hw
      have f29 : vals 29 = Value.pointer (some ⟨w.heap.size, 6, none⟩) := hw ⟨29, .data⟩ (by simp) rfl
      clear hw
      refine step_plain rfl ?_
      have cc : W.cell? ⟨w.heap.size, 6, none⟩ = some (.int .u32 id) := (bx.later hbW).cell 6
      go_simp
      (first | exact Below.refl _ _ | exact ⟨Below.refl _ _, rfl⟩ | exact ⟨_, rfl, Below.refl _ _, rfl⟩)
    · intro W hbW hw
      have f30 : vals 30 = Value.int .u32 id := hw ⟨30, .data⟩ (by simp) rfl
      clear hw
      refine step_plain rfl ?_
      have hwr : IntKind.u64.wrap id = id := by rw [IntKind.wrap_u64]; omega
      go_simp
      (first | exact Below.refl _ _ | exact ⟨Below.refl _ _, rfl⟩ | exact ⟨_, rfl, Below.refl _ _, rfl⟩)
    · intro W hbW hw
      have f31 : vals 31 = Value.int .u64 id := hw ⟨31, .data⟩ (by simp) rfl
      have f27 : IR W W.heap.size .u8 (vals 27) (putS what 4) := hw ⟨27, .chain⟩ (by simp) rfl
      clear hw
      refine step_plain rfl ?_
      go_simp
      refine (put_any id 4 lid (by omega) (by omega) (by omega) _).mono ?_
      rintro e W1 ⟨v, rfl, hown, hbl⟩
      exact ⟨hbl, IR.of_own hown⟩
    · intro W hbW hw
      clear hw
      refine step_plain rfl ?_
      go_simp
      (first | exact Below.refl _ _ | exact ⟨Below.refl _ _, rfl⟩ | exact ⟨_, rfl, Below.refl _ _, rfl⟩)
    · intro W hbW hw
      have f33 : vals 33 = Value.pointer (some ⟨w.heap.size, 2, none⟩) := hw ⟨33, .data⟩ (by simp) rfl
      clear hw
      refine step_plain rfl ?_
      go_simp
      (first | exact Below.refl _ _ | exact ⟨Below.refl _ _, rfl⟩ | exact ⟨_, rfl, Below.refl _ _, rfl⟩)
    · intro W hbW hw
      have f34 : vals 34 = Value.pointer (some ⟨w.heap.size, 7, none⟩) := hw ⟨34, .data⟩ (by simp) rfl
      clear hw
      refine step_plain rfl ?_
      have cc : W.cell? ⟨w.heap.size, 7, none⟩ = some (.int .u64 am) := (bx.later hbW).cell 7
      go_simp
      (first | exact Below.refl _ _ | exact ⟨Below.refl _ _, rfl⟩ | exact ⟨_, rfl, Below.refl _ _, rfl⟩)
    · intro W hbW hw
      have f35 : vals 35 = Value.int .u64 am := hw ⟨35, .data⟩ (by simp) rfl
      have f32 : IR W W.heap.size .u8 (vals 32) (putS id 4) := hw ⟨32, .chain⟩ (by simp) rfl
      clear hw
      refine step_plain rfl ?_
      go_simp
      refine (put_any am 8 lam (by omega) (by omega) (by omega) _).mono ?_
      rintro e W1 ⟨v, rfl, hown, hbl⟩
      exact ⟨hbl, IR.of_own hown⟩
    · intro W hbW hw
      clear hw
      refine step_plain rfl ?_
      go_simp
      (first | exact Below.refl _ _ | exact ⟨Below.refl _ _, rfl⟩ | exact ⟨_, rfl, Below.refl _ _, rfl⟩)
    · intro W hbW hw
      have f37 : vals 37 = Value.pointer (some ⟨w.heap.size, 2, none⟩) := hw ⟨37, .data⟩ (by simp) rfl
      clear hw
      refine step_plain rfl ?_
      go_simp
      (first | exact Below.refl _ _ | exact ⟨Below.refl _ _, rfl⟩ | exact ⟨_, rfl, Below.refl _ _, rfl⟩)
    · intro W hbW hw
      have f38 : vals 38 = Value.pointer (some ⟨w.heap.size, 8, none⟩) := hw ⟨38, .data⟩ (by simp) rfl
      clear hw
      refine step_plain rfl ?_
      have cc : W.cell? ⟨w.heap.size, 8, none⟩ = some (.int .u64 pr) := (bx.later hbW).cell 8
      go_simp
      (first | exact Below.refl _ _ | exact ⟨Below.refl _ _, rfl⟩ | exact ⟨_, rfl, Below.refl _ _, rfl⟩)
    · intro W hbW hw
      have f39 : vals 39 = Value.int .u64 pr := hw ⟨39, .data⟩ (by simp) rfl
      have f36 : IR W W.heap.size .u8 (vals 36) (putS am 8) := hw ⟨36, .chain⟩ (by simp) rfl
      clear hw
      refine step_plain rfl ?_
      go_simp
      refine (put_any pr 8 lpr (by omega) (by omega) (by omega) _).mono ?_
      rintro e W1 ⟨v, rfl, hown, hbl⟩
      exact ⟨hbl, IR.of_own hown⟩
    · intro W hbW hw
      have f3 : IR W W.heap.size .u8 (vals 3) (putS kd 1) := hw ⟨3, .data⟩ (by simp) rfl
      have f7 : IR W W.heap.size .u8 (vals 7) (putS n 4) := hw ⟨7, .data⟩ (by simp) rfl
      have f12 : IR W W.heap.size .u8 (vals 12) (putS k 1) := hw ⟨12, .data⟩ (by simp) rfl
      have f17 : IR W W.heap.size .u8 (vals 17) (putS who 4) := hw ⟨17, .data⟩ (by simp) rfl
      have f22 : IR W W.heap.size .u8 (vals 22) (putS whom 4) := hw ⟨22, .data⟩ (by simp) rfl
      have f27 : IR W W.heap.size .u8 (vals 27) (putS what 4) := hw ⟨27, .data⟩ (by simp) rfl
      have f32 : IR W W.heap.size .u8 (vals 32) (putS id 4) := hw ⟨32, .data⟩ (by simp) rfl
      have f36 : IR W W.heap.size .u8 (vals 36) (putS am 8) := hw ⟨36, .data⟩ (by simp) rfl
      have f40 : IR W W.heap.size .u8 (vals 40) (putS pr 8) := hw ⟨40, .data⟩ (by simp) rfl
      clear hw
      refine step_plain rfl ?_
      obtain ⟨A3, c3, e3, _, _⟩ := f3.form
      rw [putS_len] at e3
      rw [e3] at f3
      obtain ⟨A7, c7, e7, _, _⟩ := f7.form
      rw [putS_len] at e7
      rw [e7] at f7
      obtain ⟨A12, c12, e12, _, _⟩ := f12.form
      rw [putS_len] at e12
      rw [e12] at f12
      obtain ⟨A17, c17, e17, _, _⟩ := f17.form
      rw [putS_len] at e17
      rw [e17] at f17
      obtain ⟨A22, c22, e22, _, _⟩ := f22.form
      rw [putS_len] at e22
      rw [e22] at f22
      obtain ⟨A27, c27, e27, _, _⟩ := f27.form
      rw [putS_len] at e27
      rw [e27] at f27
      obtain ⟨A32, c32, e32, _, _⟩ := f32.form
      rw [putS_len] at e32
      rw [e32] at f32
      obtain ⟨A36, c36, e36, _, _⟩ := f36.form
      rw [putS_len] at e36
      rw [e36] at f36
      obtain ⟨A40, c40, e40, _, _⟩ := f40.form
      rw [putS_len] at e40
      rw [e40] at f40
      go_simp
      refine ⟨(Below.refl _ _).alloc (Nat.le_refl _) _, [(.slice A3 1 c3, putS kd 1), (.slice A7 4 c7, putS n 4), (.slice A12 1 c12, putS k 1), (.slice A17 4 c17, putS who 4), (.slice A22 4 c22, putS whom 4), (.slice A27 4 c27, putS what 4), (.slice A32 4 c32, putS id 4), (.slice A36 8 c36, putS am 8), (.slice A40 8 c40, putS pr 8)], ?_, by simp, by simp [flat]⟩
      have hs := SR.lit W [(.slice A3 1 c3, putS kd 1), (.slice A7 4 c7, putS n 4), (.slice A12 1 c12, putS k 1), (.slice A17 4 c17, putS who 4), (.slice A22 4 c22, putS whom 4), (.slice A27 4 c27, putS what 4), (.slice A32 4 c32, putS id 4), (.slice A36 8 c36, putS am 8), (.slice A40 8 c40, putS pr 8)] 28 W.heap.size W.heap.size rfl (Nat.le_refl _) (by simp) ?_
      · simpa using hs
      · intro p hp
        simp only [List.mem_cons, List.not_mem_nil, or_false] at hp
        rcases hp with rfl | rfl | rfl | rfl | rfl | rfl | rfl | rfl | rfl
        all_goals exact ⟨by assumption, putS_bytes _ _⟩
    · intro W hbW hw
      have f41 : SRF W (vals 41) (putS kd 1 ++ (putS n 4 ++ (putS k 1 ++ (putS who 4 ++ (putS whom 4 ++ (putS what 4 ++ (putS id 4 ++ (putS am 8 ++ (putS pr 8))))))))) := hw ⟨41, .data⟩ (by simp) rfl
      have f40 : IR W W.heap.size .u8 (vals 40) (putS pr 8) := hw ⟨40, .chain⟩ (by simp) rfl
      clear hw
      refine step_plain rfl ?_
      obtain ⟨us, hs, hl, hfl⟩ := f41
      go_simp
      refine (concat_any _ us _ hs (by omega) (by rw [hfl]; simp [putS_len]) (by rw [hfl]; simp [putS_len])).mono ?_
      rintro e W1 ⟨v, rfl, hown, hbl⟩
      rw [hfl] at hown
      exact ⟨hbl, IR.of_own hown⟩
    · intro W hbW hw
      have f42 : IR W W.heap.size .u8 (vals 42) (putS kd 1 ++ (putS n 4 ++ (putS k 1 ++ (putS who 4 ++ (putS whom 4 ++ (putS what 4 ++ (putS id 4 ++ (putS am 8 ++ (putS pr 8))))))))) := hw ⟨42, .data⟩ (by simp) rfl
      have f0 : vals 0 = Value.pointer (some ⟨w.heap.size, 0, none⟩) := hw ⟨0, .phase⟩ (by simp) rfl
      have f1 : vals 1 = Value.int .u8 kd := hw ⟨1, .phase⟩ (by simp) rfl
      have f2 : vals 2 = Value.int .u64 kd := hw ⟨2, .phase⟩ (by simp) rfl
      have f3 : IR W W.heap.size .u8 (vals 3) (putS kd 1) := hw ⟨3, .phase⟩ (by simp) rfl
      have f4 : vals 4 = Value.pointer (some ⟨w.heap.size, 1, none⟩) := hw ⟨4, .phase⟩ (by simp) rfl
      have f5 : vals 5 = Value.int .u32 n := hw ⟨5, .phase⟩ (by simp) rfl
      have f6 : vals 6 = Value.int .u64 n := hw ⟨6, .phase⟩ (by simp) rfl
      have f7 : IR W W.heap.size .u8 (vals 7) (putS n 4) := hw ⟨7, .phase⟩ (by simp) rfl
      have f8 : vals 8 = Value.pointer (some ⟨w.heap.size, 2, none⟩) := hw ⟨8, .phase⟩ (by simp) rfl
      have f9 : vals 9 = Value.pointer (some ⟨w.heap.size, 2, none⟩) := hw ⟨9, .phase⟩ (by simp) rfl
      have f10 : vals 10 = Value.int .u8 k := hw ⟨10, .phase⟩ (by simp) rfl
      have f11 : vals 11 = Value.int .u64 k := hw ⟨11, .phase⟩ (by simp) rfl
      have f12 : IR W W.heap.size .u8 (vals 12) (putS k 1) := hw ⟨12, .phase⟩ (by simp) rfl
      have f13 : vals 13 = Value.pointer (some ⟨w.heap.size, 2, none⟩) := hw ⟨13, .phase⟩ (by simp) rfl
      have f14 : vals 14 = Value.pointer (some ⟨w.heap.size, 3, none⟩) := hw ⟨14, .phase⟩ (by simp) rfl
      have f15 : vals 15 = Value.int .u32 who := hw ⟨15, .phase⟩ (by simp) rfl
      have f16 : vals 16 = Value.int .u64 who := hw ⟨16, .phase⟩ (by simp) rfl
      have f17 : IR W W.heap.size .u8 (vals 17) (putS who 4) := hw ⟨17, .phase⟩ (by simp) rfl
      have f18 : vals 18 = Value.pointer (some ⟨w.heap.size, 2, none⟩) := hw ⟨18, .phase⟩ (by simp) rfl
      have f19 : vals 19 = Value.pointer (some ⟨w.heap.size, 4, none⟩) := hw ⟨19, .phase⟩ (by simp) rfl
      have f20 : vals 20 = Value.int .u32 whom := hw ⟨20, .phase⟩ (by simp) rfl
      have f21 : vals 21 = Value.int .u64 whom := hw ⟨21, .phase⟩ (by simp) rfl
      have f22 : IR W W.heap.size .u8 (vals 22) (putS whom 4) := hw ⟨22, .phase⟩ (by simp) rfl
      have f23 : vals 23 = Value.pointer (some ⟨w.heap.size, 2, none⟩) := hw ⟨23, .phase⟩ (by simp) rfl
      have f24 : vals 24 = Value.pointer (some ⟨w.heap.size, 5, none⟩) := hw ⟨24, .phase⟩ (by simp) rfl
      have f25 : vals 25 = Value.int .u32 what := hw ⟨25, .phase⟩ (by simp) rfl
      have f26 : vals 26 = Value.int .u64 what := hw ⟨26, .phase⟩ (by simp) rfl
      have f27 : IR W W.heap.size .u8 (vals 27) (putS what 4) := hw ⟨27, .phase⟩ (by simp) rfl
      have f28 : vals 28 = Value.pointer (some ⟨w.heap.size, 2, none⟩) := hw ⟨28, .phase⟩ (by simp) rfl
      have f29 : vals 29 = Value.pointer (some ⟨w.heap.size, 6, none⟩) := hw ⟨29, .phase⟩ (by simp) rfl
      have f30 : vals 30 = Value.int .u32 id := hw ⟨30, .phase⟩ (by simp) rfl
      have f31 : vals 31 = Value.int .u64 id := hw ⟨31, .phase⟩ (by simp) rfl
      have f32 : IR W W.heap.size .u8 (vals 32) (putS id 4) := hw ⟨32, .phase⟩ (by simp) rfl
      have f33 : vals 33 = Value.pointer (some ⟨w.heap.size, 2, none⟩) := hw ⟨33, .phase⟩ (by simp) rfl
      have f34 : vals 34 = Value.pointer (some ⟨w.heap.size, 7, none⟩) := hw ⟨34, .phase⟩ (by simp) rfl
      have f35 : vals 35 = Value.int .u64 am := hw ⟨35, .phase⟩ (by simp) rfl
      have f36 : IR W W.heap.size .u8 (vals 36) (putS am 8) := hw ⟨36, .phase⟩ (by simp) rfl
      have f37 : vals 37 = Value.pointer (some ⟨w.heap.size, 2, none⟩) := hw ⟨37, .phase⟩ (by simp) rfl
      have f38 : vals 38 = Value.pointer (some ⟨w.heap.size, 8, none⟩) := hw ⟨38, .phase⟩ (by simp) rfl
      have f39 : vals 39 = Value.int .u64 pr := hw ⟨39, .phase⟩ (by simp) rfl
      have f40 : IR W W.heap.size .u8 (vals 40) (putS pr 8) := hw ⟨40, .phase⟩ (by simp) rfl
      have f41 : SRF W (vals 41) (putS kd 1 ++ (putS n 4 ++ (putS k 1 ++ (putS who 4 ++ (putS whom 4 ++ (putS what 4 ++ (putS id 4 ++ (putS am 8 ++ (putS pr 8))))))))) := hw ⟨41, .phase⟩ (by simp) rfl
      clear hw
      refine step_plain rfl ?_
      go_simp
      (first | exact Below.refl _ _ | exact ⟨Below.refl _ _, by assumption⟩ | exact ⟨_, rfl, Below.refl _ _, by assumption⟩)
  · simp only [TL, Act.put, List.setIfInBounds_toArray, List.set_cons_succ, List.set_cons_zero]
    have f0 : vals 0 = Value.pointer (some ⟨w.heap.size, 0, none⟩) := hall 0 (by decide)
    have f1 : vals 1 = Value.int .u8 kd := hall 1 (by decide)
    have f2 : vals 2 = Value.int .u64 kd := hall 2 (by decide)
    have f3 : IR W W.heap.size .u8 (vals 3) (putS kd 1) := hall 3 (by decide)
    have f4 : vals 4 = Value.pointer (some ⟨w.heap.size, 1, none⟩) := hall 4 (by decide)
    have f5 : vals 5 = Value.int .u32 n := hall 5 (by decide)
    have f6 : vals 6 = Value.int .u64 n := hall 6 (by decide)
    have f7 : IR W W.heap.size .u8 (vals 7) (putS n 4) := hall 7 (by decide)
    have f8 : vals 8 = Value.pointer (some ⟨w.heap.size, 2, none⟩) := hall 8 (by decide)
    have f9 : vals 9 = Value.pointer (some ⟨w.heap.size, 2, none⟩) := hall 9 (by decide)
    have f10 : vals 10 = Value.int .u8 k := hall 10 (by decide)
    have f11 : vals 11 = Value.int .u64 k := hall 11 (by decide)
    have f12 : IR W W.heap.size .u8 (vals 12) (putS k 1) := hall 12 (by decide)
    have f13 : vals 13 = Value.pointer (some ⟨w.heap.size, 2, none⟩) := hall 13 (by decide)
    have f14 : vals 14 = Value.pointer (some ⟨w.heap.size, 3, none⟩) := hall 14 (by decide)
    have f15 : vals 15 = Value.int .u32 who := hall 15 (by decide)
    have f16 : vals 16 = Value.int .u64 who := hall 16 (by decide)
    have f17 : IR W W.heap.size .u8 (vals 17) (putS who 4) := hall 17 (by decide)
    have f18 : vals 18 = Value.pointer (some ⟨w.heap.size, 2, none⟩) := hall 18 (by decide)
    have f19 : vals 19 = Value.pointer (some ⟨w.heap.size, 4, none⟩) := hall 19 (by decide)
    have f20 : vals 20 = Value.int .u32 whom := hall 20 (by decide)
    have f21 : vals 21 = Value.int .u64 whom := hall 21 (by decide)
    have f22 : IR W W.heap.size .u8 (vals 22) (putS whom 4) := hall 22 (by decide)
    have f23 : vals 23 = Value.pointer (some ⟨w.heap.size, 2, none⟩) := hall 23 (by decide)
    have f24 : vals 24 = Value.pointer (some ⟨w.heap.size, 5, none⟩) := hall 24 (by decide)
    have f25 : vals 25 = Value.int .u32 what := hall 25 (by decide)
    have f26 : vals 26 = Value.int .u64 what := hall 26 (by decide)
    have f27 : IR W W.heap.size .u8 (vals 27) (putS what 4) := hall 27 (by decide)
    have f28 : vals 28 = Value.pointer (some ⟨w.heap.size, 2, none⟩) := hall 28 (by decide)
    have f29 : vals 29 = Value.pointer (some ⟨w.heap.size, 6, none⟩) := hall 29 (by decide)
    have f30 : vals 30 = Value.int .u32 id := hall 30 (by decide)
    have f31 : vals 31 = Value.int .u64 id := hall 31 (by decide)
    have f32 : IR W W.heap.size .u8 (vals 32) (putS id 4) := hall 32 (by decide)
    have f33 : vals 33 = Value.pointer (some ⟨w.heap.size, 2, none⟩) := hall 33 (by decide)
    have f34 : vals 34 = Value.pointer (some ⟨w.heap.size, 7, none⟩) := hall 34 (by decide)
    have f35 : vals 35 = Value.int .u64 am := hall 35 (by decide)
    have f36 : IR W W.heap.size .u8 (vals 36) (putS am 8) := hall 36 (by decide)
    have f37 : vals 37 = Value.pointer (some ⟨w.heap.size, 2, none⟩) := hall 37 (by decide)
    have f38 : vals 38 = Value.pointer (some ⟨w.heap.size, 8, none⟩) := hall 38 (by decide)
    have f39 : vals 39 = Value.int .u64 pr := hall 39 (by decide)
    have f40 : IR W W.heap.size .u8 (vals 40) (putS pr 8) := hall 40 (by decide)
    have f41 : SRF W (vals 41) (putS kd 1 ++ (putS n 4 ++ (putS k 1 ++ (putS who 4 ++ (putS whom 4 ++ (putS what 4 ++ (putS id 4 ++ (putS am 8 ++ (putS pr 8))))))))) := hall 41 (by decide)
    have f42 : IR W W.heap.size .u8 (vals 42) (putS kd 1 ++ (putS n 4 ++ (putS k 1 ++ (putS who 4 ++ (putS whom 4 ++ (putS what 4 ++ (putS id 4 ++ (putS am 8 ++ (putS pr 8))))))))) := hall 42 (by decide)
    have f43 : IR W W.heap.size .u8 (vals 43) (putS kd 1 ++ (putS n 4 ++ (putS k 1 ++ (putS who 4 ++ (putS whom 4 ++ (putS what 4 ++ (putS id 4 ++ (putS am 8 ++ (putS pr 8))))))))) := hall 43 (by decide)
    clear hall
    simp only [f0, f1, f2, f4, f5, f6, f8, f9, f10, f11, f13, f14, f15, f16, f18, f19, f20, f21, f23, f24, f25, f26, f28, f29, f30, f31, f33, f34, f35, f37, f38, f39]
    clear f0 f1 f2 f4 f5 f6 f8 f9 f10 f11 f13 f14 f15 f16 f18 f19 f20 f21 f23 f24 f25 f26 f28 f29 f30 f31 f33 f34 f35 f37 f38 f39
    go_wp2
    go_ret
    exact ⟨_, rfl, f43, step_ (new_ (Below.refl w.heap.size w) _) hbW⟩
end Go.Proofs.Ytnajmdgheohpjaa.Codec
