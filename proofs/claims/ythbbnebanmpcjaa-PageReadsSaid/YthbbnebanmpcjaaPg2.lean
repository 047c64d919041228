import Derived.Test.YthbbnebanmpcjaaPg1
import Derived.Test.YthbbnebanmpcjaaEachB
import Derived.Test.YthbbnebanmpcjaaCpy
/- A page's numbers are put. -/
namespace Go.Proofs.Ythbbnebanmpcjaa.Pg
open Go.ChangeShapes Go.WideShapes Go.ChangeAt Go.RowKit Go.IntWalk Go.Proofs.Mem Go.Proofs.Each
set_option linter.unusedVariables false
set_option linter.unusedSimpArgs false
/-- the bytes ys over what stands at a -/
def splice (xs : List Int) (a : Nat) (ys : List Int) : List Int := xs.take a ++ ys ++ xs.drop (a + ys.length)
theorem splice_len {xs ys : List Int} {a : Nat} (h : a + ys.length ≤ xs.length) : (splice xs a ys).length = xs.length := by simp [splice]; omega
theorem splice_bytes {xs ys : List Int} {a : Nat} (h : Bytes xs) (h' : Bytes ys) : Bytes (splice xs a ys) := fun x hx => by
  unfold splice at hx
  rcases List.mem_append.1 hx with hx | hx
  · rcases List.mem_append.1 hx with hx | hx
    · exact h x (List.mem_of_mem_take hx)
    · exact h' x hx
  · exact h x (List.mem_of_mem_drop hx)
theorem pg_splice {w : World} {b a : Nat} {xs ys : List Int} (h : PgAt w b xs) (hl : a + ys.length ≤ 448) (hy : Bytes ys) : PgAt (w.setRow b ((pgC xs).toList.take a ++ ys.map (Value.int .u8) ++ (pgC xs).toList.drop (a + (ys.map (Value.int .u8)).length)).toArray) b (splice xs a ys) ∧ Fr (fun x => x = b) w (w.setRow b ((pgC xs).toList.take a ++ ys.map (Value.int .u8) ++ (pgC xs).toList.drop (a + (ys.map (Value.int .u8)).length)).toArray) := by
  have e : ((pgC xs).toList.take a ++ ys.map (Value.int .u8) ++ (pgC xs).toList.drop (a + (ys.map (Value.int .u8)).length)).toArray = pgC (splice xs a ys) := by
    unfold pgC splice
    simp [List.map_take, List.map_drop]
  rw [e]
  exact ⟨⟨setRow_heap w b _ _ _ _ h.box, by rw [splice_len (by rw [h.len]; exact hl)]; exact h.len, splice_bytes h.byt hy⟩, ⟨rfl, rfl, rfl, by simp [World.setRow], fun k _ hk => setRow_other w b k _ hk⟩⟩
theorem run_copy_pg {P : Program} {w : World} (dT sT oT : TypeId) (elem : TypeId) (hu : P.underlying dT = some (.slice elem)) (hsz : (P.info? elem).map (·.size) = some 1) {b a : Nat} {xs ys : List Int} (h : PgAt w b xs) (n cap B : Nat) (ad : Addr) (c : Nat) (hr : IR w B .u8 (.slice (some ad) ys.length c) ys) (hy : Bytes ys) (hl : ys.length ≤ n) (hn : a + n ≤ 448) :
    ∃ w', (Builtin.copy_ #[dT, sT] oT #[.slice (some ⟨b, a, none⟩) n cap, .slice (some ad) ys.length c]).run P w = .ok (goInt ys.length) w' ∧ PgAt w' b (splice xs a ys) ∧ Fr (fun x => x = b) w w' := by
  have hrun := run_copy_row (P := P) w dT sT oT elem b a n cap ad ys.length c (pgC xs) 64 (ys.map (.int .u8)) hu hsz h.box (by rw [List.length_map]; exact (Nat.min_eq_left hl).symm) (fun j v hj => by
    have hjl : j < ys.length := by
      rcases Nat.lt_or_ge j ys.length with hh | hh
      · exact hh
      · rw [List.getElem?_eq_none (by simpa using hh)] at hj; cases hj
    obtain ⟨g, off, e, _, hc⟩ := hr.index j hjl
    injection e with e
    subst e
    rw [Go.WideShapes.add_plain, hc, ← hj]
    simp [List.getD, List.getElem?_eq_getElem hjl]) (by rw [List.length_map]; unfold pgC; simp [h.len]; omega) (fun v hv => by
    obtain ⟨z, _, rfl⟩ := List.mem_map.1 hv
    rfl)
  have e2 : goInt ((ys.map (Value.int .u8)).length : Nat) = goInt ys.length := by rw [List.length_map]
  rw [e2] at hrun
  exact ⟨_, hrun, pg_splice h (by omega) hy⟩
theorem wp_copy_pg {P : Program} (w : World) {o : Oper} {ac : Act} {K : Act → World → Prop} {Q : Exit → Act → World → Prop} (d s : Operand) (dT sT : TypeId)
    (ho : o.op = .call { callee := .builtin .copy, args := #[d, s], argTypes := #[dT, sT] }) (elem : TypeId) (hu : P.underlying dT = some (.slice elem)) (hsz : (P.info? elem).map (·.size) = some 1)
    (b a : Nat) (xs : List Int) (hp : PgAt w b xs) (hd : ac.eval d = .slice (some ⟨b, a, none⟩) (448 - a) (448 - a))
    (B : Nat) (ad : Addr) (c : Nat) (k : Nat) (ys : List Int) (hk : ys.length = k) (hs : ac.eval s = .slice (some ad) k c) (hr : IR w B .u8 (.slice (some ad) k c) ys) (hy : Bytes ys) (hl : a + k ≤ 448)
    (h : ∀ w', PgAt w' b (splice xs a ys) → Fr (fun x => x = b) w w' → K (ac.put o.dst (goInt k)) w') : o.wp P ac w K Q := by
  subst hk
  have q1 : ys.length ≤ 448 - a := by omega
  have q2 : a + (448 - a) ≤ 448 := by omega
  obtain ⟨w', hrun, r1, r2⟩ := run_copy_pg (P := P) dT sT o.type elem hu hsz hp (448 - a) (448 - a) B ad c hr hy q1 q2
  unfold Oper.wp
  simp [execOp, ho, resolve, invoke, builtin, hs, hd, hrun, Result.andThen]
  exact h w' r1 r2
set_option maxRecDepth 100000 in
set_option maxHeartbeats 8000000 in
theorem put_at (w : World) (b : Nat) (xs : List Int) (h : PgAt w b xs) (A N M : Int) (a n : Nat) (hA : A = a) (hN : N = n) (hM : 0 ≤ M ∧ M ≤ 18446744073709551615) (hn : a + n ≤ 448) (hn1 : 1 ≤ n) (hn8 : n ≤ 8) :
    Calls Try.prog 30 #[.pointer (some ⟨b, 0, none⟩), .int .i64 A, .int .i64 N, .int .u64 M] w fun e w' => e = .returned (.tuple #[]) ∧ PgAt w' b (splice xs a (NumBytes.putS M n)) ∧ Fr (fun x => x = b) w w' := by
  subst hA hN
  have HP := Lib.hid h
  have HM := Lib.hid hM
  have HN := Lib.hid (show (1 : Int) ≤ n ∧ (n : Int) ≤ 8 from ⟨by omega, by omega⟩)
  have HA := Lib.hid hn
  have h1 : (0 : Int) ≤ a := by omega
  have h3 : (a : Int) ≤ 448 := by omega
  have e1 : ((448 : Int) - a) = ((448 - a : Nat) : Int) := by omega
  have h4 : ¬ 448 - a = 0 := by omega
  have h5 : a < 448 := by omega
  have h6 : ¬ 448 ≤ a := by omega
  have h7 : ¬ 448 = a := by omega
  clear h hM hn hn1 hn8
  go_enter Try.func30, Try.ntmps30
  go_wp2_with fail
  refine wp_region_end (by kernel_rfl) (by kernel_rfl) 8 (fun W W1 => Fr (fun x => x = b) W W1) (fun W => Fr (fun x => x = b) w W ∧ PgAt W b (splice xs a (NumBytes.putS M n))) [(fun v _ => v = .pointer (some ⟨b, 0, none⟩)), (fun v _ => v = .pointer (some ⟨b, 0, none⟩)), (fun v _ => v = .pointer (some ⟨b, 0, none⟩)), (fun v _ => v = .int .i64 a), (fun v _ => v = .slice (some ⟨b, a, none⟩) (448 - a) (448 - a)), (fun v _ => v = .int .u64 M), (fun v _ => v = .int .i64 n), (fun v W => W.ownsRow w.heap.size 5 1 v n ((NumBytes.putS M n).map (.int .u8))), (fun v _ => v = undef)] (fun W W' hb h => ⟨h.1.below hb, h.2.later hb⟩) ?_ (fun vals => ?_) (fun vals W hfin hall => ?_) (by decide)
  · intro j v W W' hj hr h
    match j, hj, h with
    | 0, _, h => exact h
    | 1, _, h => exact h
    | 2, _, h => exact h
    | 3, _, h => exact h
    | 4, _, h => exact h
    | 5, _, h => exact h
    | 6, _, h => exact h
    | 7, _, h => rcases hr with h9 | h9; (exact own_frS h h9 (fun k hk hS => by have := (h.lt k hk).1; have := HP.out.box.lt; omega)); (exact own_below h h9)
    | 8, hj, _ => exact absurd rfl hj
    | _ + 9, _, _ => trivial
  · simp only [ObL, Act.put, List.setIfInBounds_toArray, List.set_cons_succ, List.set_cons_zero]
    refine ⟨?_, ?_, ?_, ?_, ?_, ?_, ?_, ?_, ?_, trivial⟩
    · intro L W hL hk hC hw
      clear hw
      clear hL hC hk
      refine step_plain rfl ?_
      go_simp
      first | exact ⟨Re.same (by decide), Fe.val (by decide) rfl rfl⟩ | exact ⟨_, rfl, Re.same (by decide), Fe.val (by decide) rfl rfl⟩
    · intro L W hL hk hC hw
      have f0 : vals 0 = .pointer (some ⟨b, 0, none⟩) := Fe.get (hw ⟨0, .data⟩ (by simp) rfl) (by decide)
      clear hw
      clear hL hC hk
      refine step_plain rfl ?_
      go_simp
      first | exact ⟨Re.same (by decide), Fe.val (by decide) rfl rfl⟩ | exact ⟨_, rfl, Re.same (by decide), Fe.val (by decide) rfl rfl⟩
    · intro L W hL hk hC hw
      have f1 : vals 1 = .pointer (some ⟨b, 0, none⟩) := Fe.get (hw ⟨1, .data⟩ (by simp) rfl) (by decide)
      clear hw
      clear hL hC hk
      refine step_plain rfl ?_
      go_simp
      first | exact ⟨Re.same (by decide), Fe.val (by decide) rfl rfl⟩ | exact ⟨_, rfl, Re.same (by decide), Fe.val (by decide) rfl rfl⟩
    · intro L W hL hk hC hw
      clear hw
      clear hL hC hk
      refine step_plain rfl ?_
      go_simp
      first | exact ⟨Re.same (by decide), Fe.val (by decide) rfl rfl⟩ | exact ⟨_, rfl, Re.same (by decide), Fe.val (by decide) rfl rfl⟩
    · intro L W hL hk hC hw
      have f2 : vals 2 = .pointer (some ⟨b, 0, none⟩) := Fe.get (hw ⟨2, .data⟩ (by simp) rfl) (by decide)
      have f3 : vals 3 = .int .i64 a := Fe.get (hw ⟨3, .data⟩ (by simp) rfl) (by decide)
      clear hw
      clear hL hC hk
      refine step_plain rfl ?_
      go_simp
      first | exact ⟨Re.same (by decide), Fe.val (by decide) rfl rfl⟩ | exact ⟨_, rfl, Re.same (by decide), Fe.val (by decide) rfl rfl⟩
    · intro L W hL hk hC hw
      clear hw
      clear hL hC hk
      refine step_plain rfl ?_
      go_simp
      first | exact ⟨Re.same (by decide), Fe.val (by decide) rfl rfl⟩ | exact ⟨_, rfl, Re.same (by decide), Fe.val (by decide) rfl rfl⟩
    · intro L W hL hk hC hw
      clear hw
      clear hL hC hk
      refine step_plain rfl ?_
      go_simp
      first | exact ⟨Re.same (by decide), Fe.val (by decide) rfl rfl⟩ | exact ⟨_, rfl, Re.same (by decide), Fe.val (by decide) rfl rfl⟩
    · intro L W hL hk hC hw
      have f5 : vals 5 = .int .u64 M := Fe.get (hw ⟨5, .data⟩ (by simp) rfl) (by decide)
      have f6 : vals 6 = .int .i64 n := Fe.get (hw ⟨6, .data⟩ (by simp) rfl) (by decide)
      clear hw
      have hb := hC (hL.not_yet hk 8 8 (by decide +kernel))
      have PA := Lib.hid (NumBytes.put_any M n HM.out.1 HM.out.2 HN.out.1 HN.out.2 W)
      have hsz := hb.size
      clear hL hC hk hb
      refine step_plain rfl ?_
      go_simp
      (with_reducible refine PA.out.mono ?_)
      rintro e w8 ⟨u, rfl, hu, hb8⟩
      rw [Int.toNat_natCast] at hu
      first | exact ⟨Re.of (by decide) hb8, Fe.val (by decide) rfl (own_lower hu hsz)⟩ | exact ⟨_, rfl, Re.of (by decide) hb8, Fe.val (by decide) rfl (own_lower hu hsz)⟩
    · intro L W hL hk hC hw
      have f4 : vals 4 = .slice (some ⟨b, a, none⟩) (448 - a) (448 - a) := Fe.get (hw ⟨4, .data⟩ (by simp) rfl) (by decide)
      have f7 : W.ownsRow w.heap.size 5 1 (vals 7) n ((NumBytes.putS M n).map (.int .u8)) := Fe.get (hw ⟨7, .data⟩ (by simp) rfl) (by decide)
      clear hw
      have hb := hC hk
      have pg := HP.out.later hb
      have hn0 := HN.out.1
      obtain ⟨gx, cx, ex, _⟩ : ∃ gx cx, vals 7 = .slice (some ⟨gx, 0, none⟩) n cx ∧ n ≤ cx := by
                rcases f7.2 with ⟨_, h0⟩ | ⟨g, cap, _, e1, _, _, h3, _⟩
                · omega
                · exact ⟨g, cap, e1, h3⟩
      rw [ex] at f7
      have ix : IR W W.heap.size .u8 (.slice (some ⟨gx, 0, none⟩) n cx) (NumBytes.putS M n) := by
                have h9 : W.ownsRow w.heap.size 5 1 (.slice (some ⟨gx, 0, none⟩) n cx) (NumBytes.putS M n).length ((NumBytes.putS M n).map (.int .u8)) := by rw [NumBytes.putS_len]; exact f7
                exact IR.of_own h9
      clear hL hC hk
      refine step_plain rfl ?_
      refine wp_copy_pg W _ _ _ _ rfl 5 Try.underlying31 (by kernel_rfl) b a xs pg f4 W.heap.size ⟨gx, 0, none⟩ cx n (NumBytes.putS M n) (NumBytes.putS_len _ _) ex ix (NumBytes.putS_bytes _ _) HA.out ?_
      intro w9 r9 g9
      first | exact ⟨_, rfl, Re.last g9, Fe.last ⟨(Fr.of_below hb).trans g9, r9⟩⟩ | exact ⟨Re.last g9, Fe.last ⟨(Fr.of_below hb).trans g9, r9⟩⟩
  · simp only [TL, Act.put, List.setIfInBounds_toArray, List.set_cons_succ, List.set_cons_zero]
    obtain ⟨hf, hp⟩ := hfin
    have HF := Lib.hid hf
    have HPP := Lib.hid hp
    clear hf hp hall
    go_wp2
    go_end0
    exact ⟨rfl, HPP.out, HF.out⟩
end Go.Proofs.Ythbbnebanmpcjaa.Pg
