import Derived.Test.YtpndcpmfcajmdaaLk4
import Derived.Test.YtpndcpmfcajmdaaSsOwn
import Derived.Laws.CopyRow
import Derived.Lib.AppendZerosOnto
import Derived.Lib.Overlaps
import Derived.Laws.Externs
/- Lines: rows of places, from anywhere in a block on. -/
namespace Go.Proofs.Ytpndcpmfcajmdaa.Lock
open Go.ChangeShapes Go.WideShapes Go.ChangeAt Go.RowKit Go.IntWalk Go.Proofs.Mem Law
set_option linter.unusedVariables false
set_option linter.unusedSimpArgs false
structure Pl where
  t : Int
  m : Int
def cPl (x : Pl) : List Value := [.int .u32 x.t, .int .u8 x.m]
def Pls (l : List Pl) : List Value := l.flatMap cPl
theorem cPl_len (x : Pl) : (cPl x).length = 2 := rfl
theorem cPl_one (y : Pl) : ∀ u ∈ cPl y, u.oneCell' = true := by
  intro u hu
  simp [cPl] at hu
  rcases hu with rfl | rfl <;> rfl
theorem Pls_len (l : List Pl) : (Pls l).length = l.length * 2 := flat_len cPl_len l
theorem Pls_one (l : List Pl) : ∀ u ∈ Pls l, u.oneCell' = true := by
  intro u hu
  obtain ⟨y, _, h⟩ := List.mem_flatMap.1 hu
  exact cPl_one y u h
theorem Pls_app (a b : List Pl) : Pls (a ++ b) = Pls a ++ Pls b := List.flatMap_append ..
theorem Pls_cons (x : Pl) (l : List Pl) : Pls (x :: l) = cPl x ++ Pls l := List.flatMap_cons ..
theorem pl_info : (Try.prog.info? 72).map (fun i => (i.zero, i.size, i.bytes)) = some (some (.agg #[.int .u32 0, .int .u8 0]), 2, 8) := by kernel_rfl
theorem pl_parts : ∃ i, Try.prog.info? 72 = some i ∧ i.zero = some (.agg #[.int .u32 0, .int .u8 0]) ∧ i.size = 2 ∧ i.bytes = 8 := by
  have h := pl_info
  cases e : Try.prog.info? 72 with
  | none => rw [e] at h; cases h
  | some i => rw [e] at h; simp at h; exact ⟨i, rfl, h.1, h.2.1, h.2.2⟩
/-- block b is a row of these cells -/
abbrev RowB (w : World) (b : Nat) (cs : List Value) : Prop := Box w b cs.toArray 72
theorem RowB.set_ {w : World} {b : Nat} {cs ds : List Value} (h : RowB w b cs) : RowB (w.setRow b ds.toArray) b ds := by
  unfold RowB Box at h ⊢
  exact setRow_heap w b _ _ _ _ h
theorem fr_setRow (w : World) (b : Nat) (ds : Array Value) : Fr (fun x => x = b) w (w.setRow b ds) :=
  ⟨rfl, rfl, rfl, by simp [World.setRow], fun k _ hn => setRow_other w b k _ (fun e => hn (by omega))⟩
theorem RowB.cells {w : World} {b : Nat} {pre mid post : List Value} (h : RowB w b (pre ++ mid ++ post)) (j : Nat) (u : Value) (hu : mid[j]? = some u) : w.cell? ((⟨b, pre.length, none⟩ : Addr).add j) = some u := by
  rw [Go.WideShapes.add_plain, Box.cell h]
  have hj : j < mid.length := (List.getElem?_eq_some_iff.1 hu).1
  have h1 : (pre ++ mid ++ post)[pre.length + j]? = some u := by
    rw [List.append_assoc, List.getElem?_append_right (by omega), Nat.add_sub_cancel_left, List.getElem?_append_left hj]
    exact hu
  simpa using h1
/-- the row's segment mid becomes cs -/
theorem take_drop3 (pre mid post cs : List Value) (h : mid.length = cs.length) : (pre ++ mid ++ post).take pre.length ++ cs ++ (pre ++ mid ++ post).drop (pre.length + cs.length) = pre ++ cs ++ post := by
  rw [← h]
  have e1 : (pre ++ mid ++ post).take pre.length = pre := by rw [List.append_assoc]; exact List.take_left
  have e2 : (pre ++ mid ++ post).drop (pre.length + mid.length) = post := by rw [← List.length_append]; exact List.drop_left
  rw [e1, e2]
theorem run_copyK (w : World) (ty : TypeId) (g : Nat) (pre mid post cs : List Value) (a : Addr) (dLen dCap sLen sCap : Nat) (hb : RowB w g (pre ++ mid ++ post)) (hm : mid.length = cs.length) (n : Nat) (hmin : Nat.min sLen dLen = n) (hn : cs.length = n * 2)
    (hsrc : ∀ j v, cs[j]? = some v → w.cell? (a.add j) = some v) (h1 : ∀ v ∈ cs, v.oneCell' = true) :
    (Builtin.copy_ #[84, 84] ty #[.slice (some ⟨g, pre.length, none⟩) dLen dCap, .slice (some a) sLen sCap]).run Try.prog w = .ok (goInt n) (w.setRow g (pre ++ cs ++ post).toArray) := by
  have hl := run_loadCells_list (P := Try.prog) w a cs hsrc
  have hst := run_storeCells_at Try.prog g pre.length 72 cs 0 _ w hb (by simp; omega) h1
  have e := take_drop3 pre mid post cs hm
  simp only [Nat.add_zero] at hst
  rw [e] at hst
  obtain ⟨i, hi, _, hsz, _⟩ := pl_parts
  subst hmin
  simp [Builtin.copy_, run_underlying Try.underlying84, Builtin.lenOf, Builtin.firstCells, sizeOf, typeInfo, hi, hsz, ← hn, hl]
  rw [hst]
  simp only [Result.andThen_ok, List.append_assoc]
/-- the line lv reads l: it lies in a block of its own -/
def LnAt (w : World) (base : Nat) (lv : Value) (l : List Pl) : Prop :=
  (lv = .slice none 0 0 ∧ l = []) ∨ ∃ b pre post cap, lv = .slice (some ⟨b, pre.length, none⟩) l.length cap ∧ base ≤ b ∧ RowB w b (pre ++ Pls l ++ post) ∧ l.length ≤ cap ∧ cap ≤ maxLen ∧ cap * 2 ≤ l.length * 2 + post.length
section
variable {w w' : World} {base : Nat} {lv : Value} {l : List Pl}
theorem LnAt.nil (w : World) (base : Nat) : LnAt w base (.slice none 0 0) [] := .inl ⟨rfl, rfl⟩
theorem LnAt.fr {S : Nat → Prop} (h : LnAt w base lv l) (hf : Fr S w w') (hs : ∀ b, lv.ownBlock = some b → ¬ S b) : LnAt w' base lv l := by
  rcases h with h | ⟨b, pre, post, cap, rfl, h2, h3, h4⟩
  · exact .inl h
  · exact .inr ⟨b, pre, post, cap, rfl, h2, Box.fr h3 hf (hs b rfl), h4⟩
theorem LnAt.later (h : LnAt w base lv l) (hb : Below w.heap.size w w') : LnAt w' base lv l := h.fr (S := fun _ => False) (Fr.of_below hb) (fun _ _ => id)
theorem LnAt.lt (h : LnAt w base lv l) : ∀ b, lv.ownBlock = some b → base ≤ b ∧ b < w.heap.size := by
  intro b hb
  rcases h with ⟨rfl, _⟩ | ⟨b', pre, post, cap, rfl, h2, h3, h4⟩
  · cases hb
  · injection hb with hb
    subst hb
    exact ⟨h2, Box.lt h3⟩
theorem LnAt.form (h : LnAt w base lv l) : ∃ A c, lv = .slice A l.length c ∧ l.length ≤ c ∧ c ≤ maxLen := by
  rcases h with ⟨rfl, rfl⟩ | ⟨b, pre, post, cap, rfl, h2, h3, h4, h5, h6⟩
  · exact ⟨none, 0, rfl, Nat.le_refl _, Nat.zero_le _⟩
  · exact ⟨_, _, rfl, h4, h5⟩
theorem LnAt.ss (h : LnAt w base lv l) : SS cPl 2 w w.heap.size lv l := by
  rcases h with ⟨rfl, rfl⟩ | ⟨b, pre, post, cap, rfl, h2, h3, h4, h5, h6⟩
  · exact SS.nil _ _
  · refine ⟨_, _, rfl, h4, h5, fun i x hx => ⟨b, pre.length, rfl, Box.lt h3, fun j u hu => ?_⟩⟩
    have hj : j < 2 := by rw [← cPl_len x]; exact (List.getElem?_eq_some_iff.1 hu).1
    have := RowB.cells h3 (i * 2 + j) u (by unfold Pls; rw [flat_at cPl_len l i x j hx hj]; exact hu)
    rw [Go.WideShapes.add_plain] at this
    rw [Nat.add_assoc]; exact this
theorem LnAt.made {b : Nat} {cs tail : List Value} {cap : Nat} (h : RowB w b (cs ++ tail)) (hb : base ≤ b) (hc : cs = Pls l) (h4 : l.length ≤ cap) (h5 : cap ≤ maxLen) (h6 : cap * 2 ≤ l.length * 2 + tail.length) : LnAt w base (.slice (some ⟨b, 0, none⟩) l.length cap) l := by
  subst hc
  exact .inr ⟨b, [], tail, cap, rfl, hb, by simpa using h, h4, h5, h6⟩
theorem LnAt.lower {base' : Nat} (h : LnAt w base lv l) (hb : base' ≤ base) : LnAt w base' lv l := by
  rcases h with h | ⟨b, pre, post, cap, rfl, h2, h3, h4⟩
  · exact .inl h
  · exact .inr ⟨b, pre, post, cap, rfl, Nat.le_trans hb h2, h3, h4⟩
end
end Go.Proofs.Ytpndcpmfcajmdaa.Lock
