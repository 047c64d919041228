import Derived.Test.YthbbnebanmpcjaaTab
import Derived.Laws.CopyRow
import Derived.OwnWalk
/- copy of bytes into an owned row. -/
namespace Go.Proofs.Cpy
open Go.RowKit Go.WideShapes Go.Proofs.Mem
set_option linter.unusedVariables false
theorem row_splice {Tu : TypeId} {w : World} {base g : Nat} {u : Value} {xs ys : List Int} (h : RowAt Tu w base g u xs) (hl : ys.length ≤ xs.length) {cur : Array Value} {t : TypeId} (hg : w.heap[g]? = some (.cells cur t (0, 0))) :
    RowAt Tu (w.setRow g (cur.toList.take 0 ++ ys.map (Value.int .u8) ++ cur.toList.drop (0 + (ys.map (Value.int .u8)).length)).toArray) base g u (ys ++ xs.drop ys.length) := by
  obtain ⟨cur', cap, rfl, hb, hgg, h1, h2, h3, h4⟩ := h.heap
  rw [hg] at hgg
  injection hgg with hgg
  injection hgg with e1 e2 e3
  subst e1 e2
  have hL : (ys ++ xs.drop ys.length).length = xs.length := by simp; omega
  refine ⟨⟨cap, by rw [hL]⟩, by simp, .inr ⟨g, cap, _, by rw [hL], hb, setRow_heap w g cur _ t _ hg, by rw [hL]; exact h1, h3, ?_, ?_⟩⟩
  · simp only [List.size_toArray, List.length_append, List.length_take, List.length_drop, List.length_map, Array.length_toList]; omega
  · rw [hL, Nat.mul_one]
    simp only [List.take_zero, List.nil_append, Nat.zero_add, List.length_map, List.map_append, List.map_drop]
    rw [List.take_append]
    rw [List.length_map, List.take_of_length_le (by rw [List.length_map]; exact hl)]
    congr 1
    rw [← h4, List.drop_take]
theorem copy_runs {P : Program} {w : World} (dT sT oT : TypeId) (elem : TypeId) (hu : P.underlying dT = some (.slice elem)) (hsz : (P.info? elem).map (·.size) = some 1)
    {Tu : TypeId} {base g : Nat} {cap : Nat} {xs : List Int} (hrow : RowAt Tu w base g (.slice (some ⟨g, 0, none⟩) xs.length cap) xs) (B : Nat) (ad : Addr) (c : Nat) (ys : List Int) (hr : IR w B .u8 (.slice (some ad) ys.length c) ys) (hl : ys.length ≤ xs.length) :
    ∃ w', (Builtin.copy_ #[dT, sT] oT #[.slice (some ⟨g, 0, none⟩) xs.length cap, .slice (some ad) ys.length c]).run P w = .ok (goInt ys.length) w' ∧ RowAt Tu w' base g (.slice (some ⟨g, 0, none⟩) xs.length cap) (ys ++ xs.drop ys.length) ∧ w.grownBy w' (some g) := by
  obtain ⟨cur, cap', e, hb, hgg, h1, h2, h3, h4⟩ := hrow.heap
  injection e with _ _ e3
  subst e3
  have hrun := run_copy_row (P := P) w dT sT oT elem g 0 xs.length cap ad ys.length c cur Tu (ys.map (.int .u8)) hu hsz hgg (by rw [List.length_map]; exact (Nat.min_eq_left hl).symm) (fun j v hj => by
    have hjl : j < ys.length := by
      rcases Nat.lt_or_ge j ys.length with hh | hh
      · exact hh
      · rw [List.getElem?_eq_none (by simpa using hh)] at hj; cases hj
    obtain ⟨b, off, e, _, hc⟩ := hr.index j hjl
    injection e with e
    subst e
    rw [Go.WideShapes.add_plain, hc, ← hj]
    simp [List.getD, List.getElem?_eq_getElem hjl]) (by rw [List.length_map]; omega) (fun v hv => by
    obtain ⟨z, _, rfl⟩ := List.mem_map.1 hv
    rfl)
  have e2 : goInt ((ys.map (Value.int .u8)).length : Nat) = goInt ys.length := by rw [List.length_map]
  rw [e2] at hrun
  refine ⟨_, hrun, ?_, ⟨rfl, rfl, rfl, by simp [World.setRow], fun k _ hk => setRow_other w g k _ (fun e => hk (by rw [e]))⟩⟩
  exact row_splice hrow hl hgg
theorem wp_copy_row {P : Program} (w : World) {o : Oper} {a : Act} {K : Act → World → Prop} {Q : Exit → Act → World → Prop} (d s : Operand) (dT sT : TypeId)
    (ho : o.op = .call { callee := .builtin .copy, args := #[d, s], argTypes := #[dT, sT] }) (elem : TypeId) (hu : P.underlying dT = some (.slice elem)) (hsz : (P.info? elem).map (·.size) = some 1)
    (Tu : TypeId) (base g n cap : Nat) (xs : List Int) (hn : xs.length = n) (hd : a.eval d = .slice (some ⟨g, 0, none⟩) n cap) (hrow : RowAt Tu w base g (.slice (some ⟨g, 0, none⟩) n cap) xs)
    (B : Nat) (ad : Addr) (c : Nat) (k : Nat) (ys : List Int) (hk : ys.length = k) (hs : a.eval s = .slice (some ad) k c) (hr : IR w B .u8 (.slice (some ad) k c) ys) (hl : k ≤ n)
    (h : ∀ w', RowAt Tu w' base g (.slice (some ⟨g, 0, none⟩) n cap) (ys ++ xs.drop ys.length) → w.grownBy w' (some g) → K (a.put o.dst (goInt k)) w') : o.wp P a w K Q := by
  subst hn hk
  obtain ⟨w', hrun, r1, r2⟩ := copy_runs (P := P) dT sT o.type elem hu hsz hrow B ad c ys hr hl
  unfold Oper.wp
  simp [execOp, ho, resolve, invoke, builtin, hs, hd, hrun, Result.andThen]
  exact h w' r1 r2
end Go.Proofs.Cpy
