import Derived.Test.YtpndcpmfcajmdaaBox
import Derived.Test.YtpndcpmfcajmdaaLaw
import Derived.Test.YtpndcpmfcajmdaaLn0
import Derived.Test.YtpndcpmfcajmdaaMem2
import Derived.Test.YtpndcpmfcajmdaaMem3
import Derived.BigFrameIn
import Derived.BigQuiet
import Derived.BigRegion
import Derived.Deep.Cut
import Derived.Deep.QuietTactic
import Derived.Laws.CopyRow
import Derived.Laws.Externs
import Derived.Laws.MathBits
import Derived.Laws.OwnMore
import Derived.Lib.AppendZerosOnto
import Derived.Lib.Hide
import Derived.Lib.Overlaps
import Derived.LoopIn
import Derived.LoopN
import Derived.LoopNIn
import Derived.OwnWalkIn
import Derived.ProofKit
import Derived.RangeFuncBound
import Derived.RangeFuncBox
import Derived.RangeFuncCalls
import Derived.RangeFuncFrom
import Derived.RangeFuncLeaves
import Derived.RangeFuncNested
import Derived.Shelf.Abstract
import Derived.Shelf.RegionOpen
import Derived.Shelf.RegionOpenPlain
import Derived.Sort.AssemblyPlain
import Derived.TacticsInMore
import Derived.WalkKit
namespace Go.Proofs.Mem
open Go.RowKit Go.WideShapes
set_option linter.unusedVariables false
section
variable {α : Type} {F : α → List Value} {sz : Nat}
theorem flat_len (hF : ∀ x, (F x).length = sz) : ∀ l : List α, (l.flatMap F).length = l.length * sz
  | [] => by simp
  | x :: l => by rw [List.flatMap_cons, List.length_append, hF, flat_len hF l, List.length_cons, Nat.succ_mul]; omega
theorem flat_at (hF : ∀ x, (F x).length = sz) : ∀ (l : List α) (i : Nat) (x : α) (j : Nat), l[i]? = some x → j < sz → (l.flatMap F)[i * sz + j]? = (F x)[j]?
  | [], i, x, j, h, _ => by simp at h
  | y :: l, 0, x, j, h, hj => by
    simp at h
    subst h
    rw [Nat.zero_mul, Nat.zero_add, List.flatMap_cons, List.getElem?_append_left (by rw [hF]; exact hj)]
  | y :: l, i + 1, x, j, h, hj => by
    have := flat_at hF l i x j (by simpa using h) hj
    rw [List.flatMap_cons, List.getElem?_append_right (by rw [hF, Nat.succ_mul]; omega), hF, ← this]
    congr 1
    rw [Nat.succ_mul]; omega
theorem SS.of_own {w : World} {base : Nat} {e : TypeId} {v : Value} {xs : List α} (hF : ∀ x, (F x).length = sz) (h : w.ownsRow base e sz v xs.length (xs.flatMap F)) : SS F sz w w.heap.size v xs := by
  have h' := h
  rcases h.2 with ⟨rfl, hn⟩ | ⟨g, cap, cur, rfl, hg, hh, hnc, hm, _, _⟩
  · have : xs = [] := List.eq_nil_of_length_eq_zero hn
    subst this
    exact SS.nil _ _
  · have hlt := (h.lt g rfl).2
    refine ⟨some ⟨g, 0, none⟩, cap, rfl, hnc, hm, fun i x hx => ⟨g, 0, rfl, hlt, fun j u hu => ?_⟩⟩
    have hi : i < xs.length := (List.getElem?_eq_some_iff.1 hx).1
    have hj : j < sz := by rw [← hF x]; exact (List.getElem?_eq_some_iff.1 hu).1
    have hlt2 : i * sz + j < xs.length * sz := by
      have h1 : (i + 1) * sz ≤ xs.length * sz := Nat.mul_le_mul_right sz hi
      rw [Nat.succ_mul] at h1
      omega
    rw [Nat.zero_add, h'.cellAt (i * sz + j) hlt2, flat_at hF xs i x j hx hj, hu]
theorem wpList_push_ss {P : Program} (w : World) {ops : Array Oper} {rest : List Oper} {o : Oper} {a : Act} {Q : Exit → Act → World → Prop} (hgd : o.guard = none) (s x : Operand) (t : TypeId)
    (ho : o.op = .call { callee := .builtin .append, args := #[s, x], argTypes := #[t, t] })
    (base : Nat) (e : TypeId) (i : TypeInfo) (z : Value) (bytes : Nat) (ht : P.underlying t = some (.slice e)) (hi : P.info? e = some i) (hz : i.zero = some z)
    (hsize : i.size = sz) (hby : i.bytes = bytes) (hzs : z.cells.size = sz) (hsz : 0 < sz) (hF : ∀ y, (F y).length = sz) (h1 : ∀ y : α, ∀ u ∈ F y, u.oneCell' = true)
    (v : Value) (xs : List α) (hs : a.eval s = v) (hown : w.ownsRow base e sz v xs.length (xs.flatMap F))
    (g : Nat) (y : α) (T : TypeId) (hx : a.eval x = .slice (some ⟨g, 0, none⟩) 1 1) (hc : Box w g (F y).toArray T) (h63 : xs.length + 1 ≤ maxLen) (hbytes : (xs.length + 1) * bytes ≤ 140737488355328) (hbase : base ≤ w.heap.size)
    (h : ∀ v' w', w'.ownsRow base e sz v' (xs ++ [y]).length ((xs ++ [y]).flatMap F) → RowTo w w' v v' → wpList P ops Q rest (a.put o.dst v') w') : wpList P ops Q (o :: rest) a w := by
  refine wpList_plain hgd fun K hK' => ?_
  obtain ⟨v', w', hrun, h2, h3, _, h5⟩ := run_append_own_at (P := P) (w := w) base t o.type e i z sz bytes ht hi hz hsize hby hzs hsz v xs.length _ hown ⟨g, 0, none⟩ 1 1 (F y) (by rw [hF]; omega) (by
    intro j u hj
    rw [Go.WideShapes.add_plain, Nat.zero_add, hc.cell j]
    simpa using hj) (h1 y) h63 hbytes hbase
  unfold Oper.wp
  simp [execOp, ho, resolve, invoke, builtin, hs, hx, hrun, Result.andThen]
  exact hK' _ _ (h v' w' (by rw [List.length_append, List.flatMap_append]; simpa using h2) (RowTo.app h3 h5))
end
end Go.Proofs.Mem
namespace Go.Proofs.Ytpndcpmfcajmdaa.Lock
open Go.ChangeShapes Go.WideShapes Go.ChangeAt Go.RowKit Go.IntWalk Go.Proofs.Mem Law
set_option linter.unusedVariables false
set_option linter.unusedSimpArgs false
structure Pl where
  t : Int
  m : Int
def cPl (x : Pl) : List Value := [.int .u32 x.t, .int .u8 x.m]
def Pls (l : List Pl) : List Value := l.flatMap cPl
theorem cPl_len (x : Pl) : (cPl x).length = 2 := rfl
theorem cPl_one (y : Pl) : ∀ u ∈ cPl y, u.oneCell' = true := by
  intro u hu
  simp [cPl] at hu
  rcases hu with rfl | rfl <;> rfl
theorem Pls_len (l : List Pl) : (Pls l).length = l.length * 2 := flat_len cPl_len l
theorem Pls_one (l : List Pl) : ∀ u ∈ Pls l, u.oneCell' = true := by
  intro u hu
  obtain ⟨y, _, h⟩ := List.mem_flatMap.1 hu
  exact cPl_one y u h
theorem Pls_app (a b : List Pl) : Pls (a ++ b) = Pls a ++ Pls b := List.flatMap_append ..
theorem Pls_cons (x : Pl) (l : List Pl) : Pls (x :: l) = cPl x ++ Pls l := List.flatMap_cons ..
theorem pl_info : (Try.prog.info? 72).map (fun i => (i.zero, i.size, i.bytes)) = some (some (.agg #[.int .u32 0, .int .u8 0]), 2, 8) := by kernel_rfl
theorem pl_parts : ∃ i, Try.prog.info? 72 = some i ∧ i.zero = some (.agg #[.int .u32 0, .int .u8 0]) ∧ i.size = 2 ∧ i.bytes = 8 := by
  have h := pl_info
  cases e : Try.prog.info? 72 with
  | none => rw [e] at h; cases h
  | some i => rw [e] at h; simp at h; exact ⟨i, rfl, h.1, h.2.1, h.2.2⟩
abbrev RowB (w : World) (b : Nat) (cs : List Value) : Prop := Box w b cs.toArray 72
theorem RowB.set_ {w : World} {b : Nat} {cs ds : List Value} (h : RowB w b cs) : RowB (w.setRow b ds.toArray) b ds := by
  unfold RowB Box at h ⊢
  exact setRow_heap w b _ _ _ _ h
theorem fr_setRow (w : World) (b : Nat) (ds : Array Value) : Fr (fun x => x = b) w (w.setRow b ds) :=
  ⟨rfl, rfl, rfl, by simp [World.setRow], fun k _ hn => setRow_other w b k _ (fun e => hn (by omega))⟩
theorem RowB.cells {w : World} {b : Nat} {pre mid post : List Value} (h : RowB w b (pre ++ mid ++ post)) (j : Nat) (u : Value) (hu : mid[j]? = some u) : w.cell? ((⟨b, pre.length, none⟩ : Addr).add j) = some u := by
  rw [Go.WideShapes.add_plain, Box.cell h]
  have hj : j < mid.length := (List.getElem?_eq_some_iff.1 hu).1
  have h1 : (pre ++ mid ++ post)[pre.length + j]? = some u := by
    rw [List.append_assoc, List.getElem?_append_right (by omega), Nat.add_sub_cancel_left, List.getElem?_append_left hj]
    exact hu
  simpa using h1
theorem take_drop3 (pre mid post cs : List Value) (h : mid.length = cs.length) : (pre ++ mid ++ post).take pre.length ++ cs ++ (pre ++ mid ++ post).drop (pre.length + cs.length) = pre ++ cs ++ post := by
  rw [← h]
  have e1 : (pre ++ mid ++ post).take pre.length = pre := by rw [List.append_assoc]; exact List.take_left
  have e2 : (pre ++ mid ++ post).drop (pre.length + mid.length) = post := by rw [← List.length_append]; exact List.drop_left
  rw [e1, e2]
theorem run_copyK (w : World) (ty : TypeId) (g : Nat) (pre mid post cs : List Value) (a : Addr) (dLen dCap sLen sCap : Nat) (hb : RowB w g (pre ++ mid ++ post)) (hm : mid.length = cs.length) (n : Nat) (hmin : Nat.min sLen dLen = n) (hn : cs.length = n * 2)
    (hsrc : ∀ j v, cs[j]? = some v → w.cell? (a.add j) = some v) (h1 : ∀ v ∈ cs, v.oneCell' = true) :
    (Builtin.copy_ #[84, 84] ty #[.slice (some ⟨g, pre.length, none⟩) dLen dCap, .slice (some a) sLen sCap]).run Try.prog w = .ok (goInt n) (w.setRow g (pre ++ cs ++ post).toArray) := by
  have hl := run_loadCells_list (P := Try.prog) w a cs hsrc
  have hst := run_storeCells_at Try.prog g pre.length 72 cs 0 _ w hb (by simp; omega) h1
  have e := take_drop3 pre mid post cs hm
  simp only [Nat.add_zero] at hst
  rw [e] at hst
  obtain ⟨i, hi, _, hsz, _⟩ := pl_parts
  subst hmin
  simp [Builtin.copy_, run_underlying Try.underlying84, Builtin.lenOf, Builtin.firstCells, sizeOf, typeInfo, hi, hsz, ← hn, hl]
  rw [hst]
  simp only [Result.andThen_ok, List.append_assoc]
def LnAt (w : World) (base : Nat) (lv : Value) (l : List Pl) : Prop :=
  (lv = .slice none 0 0 ∧ l = []) ∨ ∃ b pre post cap, lv = .slice (some ⟨b, pre.length, none⟩) l.length cap ∧ base ≤ b ∧ RowB w b (pre ++ Pls l ++ post) ∧ l.length ≤ cap ∧ cap ≤ maxLen ∧ cap * 2 ≤ l.length * 2 + post.length
section
variable {w w' : World} {base : Nat} {lv : Value} {l : List Pl}
theorem LnAt.nil (w : World) (base : Nat) : LnAt w base (.slice none 0 0) [] := .inl ⟨rfl, rfl⟩
theorem LnAt.fr {S : Nat → Prop} (h : LnAt w base lv l) (hf : Fr S w w') (hs : ∀ b, lv.ownBlock = some b → ¬ S b) : LnAt w' base lv l := by
  rcases h with h | ⟨b, pre, post, cap, rfl, h2, h3, h4⟩
  · exact .inl h
  · exact .inr ⟨b, pre, post, cap, rfl, h2, Box.fr h3 hf (hs b rfl), h4⟩
theorem LnAt.later (h : LnAt w base lv l) (hb : Below w.heap.size w w') : LnAt w' base lv l := h.fr (S := fun _ => False) (Fr.of_below hb) (fun _ _ => id)
theorem LnAt.lt (h : LnAt w base lv l) : ∀ b, lv.ownBlock = some b → base ≤ b ∧ b < w.heap.size := by
  intro b hb
  rcases h with ⟨rfl, _⟩ | ⟨b', pre, post, cap, rfl, h2, h3, h4⟩
  · cases hb
  · injection hb with hb
    subst hb
    exact ⟨h2, Box.lt h3⟩
theorem LnAt.form (h : LnAt w base lv l) : ∃ A c, lv = .slice A l.length c ∧ l.length ≤ c ∧ c ≤ maxLen := by
  rcases h with ⟨rfl, rfl⟩ | ⟨b, pre, post, cap, rfl, h2, h3, h4, h5, h6⟩
  · exact ⟨none, 0, rfl, Nat.le_refl _, Nat.zero_le _⟩
  · exact ⟨_, _, rfl, h4, h5⟩
theorem LnAt.ss (h : LnAt w base lv l) : SS cPl 2 w w.heap.size lv l := by
  rcases h with ⟨rfl, rfl⟩ | ⟨b, pre, post, cap, rfl, h2, h3, h4, h5, h6⟩
  · exact SS.nil _ _
  · refine ⟨_, _, rfl, h4, h5, fun i x hx => ⟨b, pre.length, rfl, Box.lt h3, fun j u hu => ?_⟩⟩
    have hj : j < 2 := by rw [← cPl_len x]; exact (List.getElem?_eq_some_iff.1 hu).1
    have := RowB.cells h3 (i * 2 + j) u (by unfold Pls; rw [flat_at cPl_len l i x j hx hj]; exact hu)
    rw [Go.WideShapes.add_plain] at this
    rw [Nat.add_assoc]; exact this
theorem LnAt.made {b : Nat} {cs tail : List Value} {cap : Nat} (h : RowB w b (cs ++ tail)) (hb : base ≤ b) (hc : cs = Pls l) (h4 : l.length ≤ cap) (h5 : cap ≤ maxLen) (h6 : cap * 2 ≤ l.length * 2 + tail.length) : LnAt w base (.slice (some ⟨b, 0, none⟩) l.length cap) l := by
  subst hc
  exact .inr ⟨b, [], tail, cap, rfl, hb, by simpa using h, h4, h5, h6⟩
end
end Go.Proofs.Ytpndcpmfcajmdaa.Lock
namespace Go.Proofs.Ytpndcpmfcajmdaa.Lock
open Go.ChangeShapes Go.WideShapes Go.ChangeAt Go.RowKit Go.IntWalk Go.Proofs.Mem Law
set_option linter.unusedVariables false
set_option linter.unusedSimpArgs false
def Ins (w : World) (base : Nat) (lv : Value) (l : List Pl) (w' : World) (e : Ending) : Prop := ∃ lv', e = .returned lv' ∧ LnAt w' base lv' l ∧ RowTo w w' lv lv'
theorem sub_one (w : World) (vb : Nat) (p : Pl) (hv : Box w vb (cPl p).toArray 72) (j : Nat) (u : Value) (h : (cPl p)[j]? = some u) : w.cell? ((⟨vb, 0, none⟩ : Addr).add j) = some u := by
  rw [Go.WideShapes.add_plain, Nat.zero_add, hv.cell]; simpa using h
theorem ins_new {w : World} {base : Nat} (lv : Value) {l : List Pl} {cap : Nat} {tail : List Value} (hb : base ≤ w.heap.size) (h4 : l.length ≤ cap) (h5 : cap ≤ maxLen) (h6 : cap * 2 ≤ l.length * 2 + tail.length) :
    LnAt (w.drew.alloc (.cells (Pls l ++ tail).toArray 72)) base (.slice (some ⟨w.heap.size, 0, none⟩) l.length cap) l ∧ RowTo w (w.drew.alloc (.cells (Pls l ++ tail).toArray 72)) lv (.slice (some ⟨w.heap.size, 0, none⟩) l.length cap) :=
  ⟨LnAt.made (Box.new w.drew _ _) hb rfl h4 h5 h6, ⟨(Fr.refl _ _).drew.alloc _, .inr ⟨_, rfl, Nat.le_refl _⟩⟩⟩
theorem zeros_len (n : Nat) : (Builtin.zeroCells (Value.agg #[.int .u32 0, .int .u8 0]).cells n).toList.length = n * 2 := by
  rw [Array.length_toList, size_zeroCells]; rfl
set_option maxRecDepth 100000 in
set_option maxHeartbeats 4000000 in
theorem insert_nil (w : World) (base vb : Nat) (p : Pl) (hbase : base ≤ w.heap.size) (hv : Box w vb (cPl p).toArray 72) :
    Calls Try.prog 53 #[.slice none 0 0, .int .i64 0, .slice (some ⟨vb, 0, none⟩) 1 1] w fun e w' => Ins w base (.slice none 0 0) [p] w' e := by
  obtain ⟨i, hi, hz, hs, hby⟩ := pl_parts
  have hrun : ∀ ty, (Builtin.append_ #[84, 84] ty #[.slice none 0 0, .slice (some ⟨vb, 0, none⟩) 1 1]).run Try.prog w = _ := fun ty =>
    run_append_nil (P := Try.prog) w 84 ty 72 i _ Try.underlying84 hi hz ⟨vb, 0, none⟩ 1 1 (cPl p) (by rw [hs]; rfl) (sub_one w vb p hv) (by omega) (by omega) (by rw [hby]; omega)
  have hge := grownCap_ge w 1 0 72
  have hcm := grownCap_le_maxLen w 1 0 72 (by unfold maxLen; omega)
  generalize grownCap w 1 0 72 = cap at hrun hge hcm
  have hN := ins_new (base := base) (.slice none 0 0) (l := [p]) (cap := cap) (tail := (Builtin.zeroCells (Value.agg #[.int .u32 0, .int .u8 0]).cells (cap - 1)).toList) hbase hge hcm (by rw [zeros_len]; simp; omega)
  have he : ((cPl p).toArray ++ Builtin.zeroCells (Value.agg #[.int .u32 0, .int .u8 0]).cells (cap - 1)) = (Pls [p] ++ (Builtin.zeroCells (Value.agg #[.int .u32 0, .int .u8 0]).cells (cap - 1)).toList).toArray := by
    apply Array.ext'; simp [Pls]
  rw [he] at hrun
  generalize (Pls [p] ++ (Builtin.zeroCells (Value.agg #[.int .u32 0, .int .u8 0]).cells (cap - 1)).toList).toArray = cs at hrun hN
  have HN := Lib.hid hN
  clear hN hge hcm he hv hi hz hs hby
  go_enter Try.func53, Try.ntmps53
  go_wp2_with (at_builtin; refine Lib.wpList_append_run _ rfl _ _ _ _ rfl _ _ rfl rfl _ _ (hrun _) ?_)
  go_ret
  exact ⟨_, rfl, HN.out.1, HN.out.2⟩
theorem run_append_roomK (w : World) (ty : TypeId) (g : Nat) (pre mid old post cs : List Value) (a : Addr) (sLen sCap c : Nat) (hb : RowB w g (pre ++ mid ++ old ++ post)) (hmid : mid.length = sLen * 2) (hold : old.length = cs.length) (hn : cs.length = 1 * 2)
    (hsrc : ∀ j v, cs[j]? = some v → w.cell? (a.add j) = some v) (h1 : ∀ v ∈ cs, v.oneCell' = true) (hroom : sLen + 1 ≤ sCap) :
    (Builtin.append_ #[84, 84] ty #[.slice (some ⟨g, pre.length, none⟩) sLen sCap, .slice (some a) 1 c]).run Try.prog w = .ok (.slice (some ⟨g, pre.length, none⟩) (sLen + 1) sCap) (w.setRow g (pre ++ mid ++ cs ++ post).toArray) := by
  obtain ⟨i, hi, _, hsz, _⟩ := pl_parts
  have hf := run_firstCells_some (P := Try.prog) w i.size 1 a 1 c cs (by rw [hsz]; exact hn) hsrc
  have hst := run_storeCells_at Try.prog g (pre ++ mid).length 72 cs 0 _ w hb (by simp; omega) h1
  have e := take_drop3 (pre ++ mid) old post cs hold
  simp only [Nat.add_zero] at hst
  rw [e] at hst
  have e2 : (pre ++ mid).length = pre.length + sLen * i.size := by rw [List.length_append, hmid, hsz]
  rw [e2] at hst
  simp only [List.append_assoc] at hst ⊢
  simp [Builtin.append_, run_underlying Try.underlying84, sizeOf, typeInfo, hi, Builtin.lenOf, hroom, hf, Addr.add_lit, hst]
theorem take2 {post : List Value} (h : 2 ≤ post.length) : ∃ old rest, post = old ++ rest ∧ old.length = 2 :=
  ⟨post.take 2, post.drop 2, (List.take_append_drop 2 post).symm, by simp; omega⟩
set_option maxRecDepth 100000 in
set_option maxHeartbeats 4000000 in
theorem insert_end_room (w : World) (base b cap vb : Nat) (pre post : List Value) (l : List Pl) (p : Pl) (hbase : base ≤ b) (hb : RowB w b (pre ++ Pls l ++ post)) (hcap : cap ≤ maxLen) (hpost : cap * 2 ≤ l.length * 2 + post.length) (hlt : l.length < cap) (hv : Box w vb (cPl p).toArray 72) :
    Calls Try.prog 53 #[.slice (some ⟨b, pre.length, none⟩) l.length cap, .int .i64 (l.length : Nat), .slice (some ⟨vb, 0, none⟩) 1 1] w fun e w' => Ins w base (.slice (some ⟨b, pre.length, none⟩) l.length cap) (l ++ [p]) w' e := by
  obtain ⟨old, rest, rfl, ho⟩ := take2 (post := post) (by omega)
  have hb' : RowB w b (pre ++ Pls l ++ old ++ rest) := by simpa [List.append_assoc] using hb
  have hrun : ∀ ty, (Builtin.append_ #[84, 84] ty #[.slice (some ⟨b, pre.length, none⟩) l.length cap, .slice (some ⟨vb, 0, none⟩) 1 1]).run Try.prog w = _ := fun ty =>
    run_append_roomK w ty b pre (Pls l) old rest (cPl p) ⟨vb, 0, none⟩ l.length cap 1 hb' (Pls_len l) ho rfl (sub_one w vb p hv) (cPl_one p) hlt
  have hN : LnAt (w.setRow b (pre ++ Pls l ++ cPl p ++ rest).toArray) base (.slice (some ⟨b, pre.length, none⟩) (l.length + 1) cap) (l ++ [p]) ∧ RowTo w (w.setRow b (pre ++ Pls l ++ cPl p ++ rest).toArray) (.slice (some ⟨b, pre.length, none⟩) l.length cap) (.slice (some ⟨b, pre.length, none⟩) (l.length + 1) cap) := by
    refine ⟨.inr ⟨b, pre, rest, cap, by simp, hbase, ?_, by simp; omega, hcap, by simp at hpost ⊢; omega⟩, ⟨(fr_setRow w b _).mono (fun k _ h => by rw [h]; rfl), .inl rfl⟩⟩
    have := hb.set_ (ds := pre ++ Pls l ++ cPl p ++ rest)
    rw [Pls_app]
    simpa [Pls, List.append_assoc] using this
  generalize w.setRow b (pre ++ Pls l ++ cPl p ++ rest).toArray = W at hrun hN
  obtain ⟨n, hn⟩ : ∃ n, l.length = n := ⟨_, rfl⟩
  obtain ⟨o, hoo⟩ : ∃ n, pre.length = n := ⟨_, rfl⟩
  rw [hn] at hrun hN hlt ⊢
  rw [hoo] at hrun hN ⊢
  have HN := Lib.hid hN
  have d1 : ¬ cap = n := by omega
  have hm : n ≤ 9223372036854775807 := by unfold maxLen at hcap; omega
  have hm2 : n ≤ cap := by omega
  clear hN hb hb' hv hn hoo ho hpost hbase
  go_enter Try.func53, Try.ntmps53
  go_wp2_with (at_builtin; refine Lib.wpList_append_run _ rfl _ _ _ _ rfl _ _ rfl rfl _ _ (hrun _) ?_)
  go_ret
  exact ⟨_, rfl, HN.out.1, HN.out.2⟩
set_option maxRecDepth 100000 in
set_option maxHeartbeats 4000000 in
theorem insert_end_grow (w : World) (base b vb : Nat) (pre post : List Value) (l : List Pl) (p : Pl) (hbase : base ≤ w.heap.size) (hb : RowB w b (pre ++ Pls l ++ post)) (hsmall : l.length ≤ 100000) (hv : Box w vb (cPl p).toArray 72) :
    Calls Try.prog 53 #[.slice (some ⟨b, pre.length, none⟩) l.length l.length, .int .i64 (l.length : Nat), .slice (some ⟨vb, 0, none⟩) 1 1] w fun e w' => Ins w base (.slice (some ⟨b, pre.length, none⟩) l.length l.length) (l ++ [p]) w' e := by
  obtain ⟨i, hi, hz, hs, hby⟩ := pl_parts
  have hrun : ∀ ty, (Builtin.append_ #[84, 84] ty #[.slice (some ⟨b, pre.length, none⟩) l.length l.length, .slice (some ⟨vb, 0, none⟩) 1 1]).run Try.prog w = _ := fun ty =>
    run_append_grow (P := Try.prog) w 84 ty 72 i _ Try.underlying84 hi hz ⟨b, pre.length, none⟩ l.length l.length (Pls l) (by rw [hs]; exact Pls_len l) (fun j v h => RowB.cells hb j v h) ⟨vb, 0, none⟩ 1 1 (cPl p) (by rw [hs]; rfl) (sub_one w vb p hv) (by omega) (by omega)
      (by rw [hby]; exact growslice_fits (by omega) (by omega))
  have hge := grownCap_ge w (l.length + 1) l.length 72
  have hcm := grownCap_le_maxLen w (l.length + 1) l.length 72 (by unfold maxLen; omega)
  generalize grownCap w (l.length + 1) l.length 72 = cap at hrun hge hcm
  have hN := ins_new (base := base) (.slice (some ⟨b, pre.length, none⟩) l.length l.length) (l := l ++ [p]) (cap := cap) (tail := (Builtin.zeroCells (Value.agg #[.int .u32 0, .int .u8 0]).cells (cap - (l.length + 1))).toList) hbase (by simpa using hge) hcm (by rw [zeros_len]; simp; omega)
  have he : ((Pls l).toArray ++ (cPl p).toArray ++ Builtin.zeroCells (Value.agg #[.int .u32 0, .int .u8 0]).cells (cap - (l.length + 1))) = (Pls (l ++ [p]) ++ (Builtin.zeroCells (Value.agg #[.int .u32 0, .int .u8 0]).cells (cap - (l.length + 1))).toList).toArray := by
    apply Array.ext'; simp [Pls]
  rw [he] at hrun
  generalize (Pls (l ++ [p]) ++ (Builtin.zeroCells (Value.agg #[.int .u32 0, .int .u8 0]).cells (cap - (l.length + 1))).toList).toArray = cs at hrun hN
  rw [show (l ++ [p]).length = l.length + 1 by simp] at hN
  obtain ⟨n, hn⟩ : ∃ n, l.length = n := ⟨_, rfl⟩
  obtain ⟨o, hoo⟩ : ∃ n, pre.length = n := ⟨_, rfl⟩
  rw [hn] at hrun hN hsmall ⊢
  rw [hoo] at hrun hN ⊢
  have HN := Lib.hid hN
  have hm : n ≤ 9223372036854775807 := by omega
  clear hN hge hcm he hv hi hz hs hby hb hn hoo
  go_enter Try.func53, Try.ntmps53
  go_wp2_with (at_builtin; refine Lib.wpList_append_run _ rfl _ _ _ _ rfl _ _ rfl rfl _ _ (hrun _) ?_)
  all_goals (go_ret; exact ⟨_, rfl, HN.out.1, HN.out.2⟩)
end Go.Proofs.Ytpndcpmfcajmdaa.Lock
namespace Go.Proofs.Ytpndcpmfcajmdaa.Lock
open Go.ChangeShapes Go.WideShapes Go.ChangeAt Go.RowKit Go.IntWalk Go.Proofs.Mem Law Go.Shelf
set_option linter.unusedVariables false
set_option linter.unusedSimpArgs false
theorem step_copyR {P : Program} {ops : Array Oper} {o : Oper} {a : Act} {w : World} {K : Act → World → Prop} {Q : Exit → Act → World → Prop} {E : Prop} (hg : o.guard = none) (d x : Operand) (t : TypeId)
    (hop : o.op = Op.call { callee := Callee.builtin Builtin.copy, args := #[d, x], argTypes := #[t, t] }) (v u : Value) (hd : a.eval d = v) (hx : a.eval x = u) {v' : Value} {w' : World}
    (hr : (Builtin.copy_ #[t, t] o.type #[v, u]).run P w = .ok v' w') (hK : K (a.put o.dst v') w') : if Region.wanted o (yielded ops a.tmps) = true then Oper.wp P o a w K Q else E := by
  rw [if_pos (show Region.wanted o (yielded ops a.tmps) = true by simp [Region.wanted, hg])]
  unfold Oper.wp
  simp [execOp, hop, resolve, invoke, builtin, hd, hx, hr, Result.andThen]
  exact hK
theorem wpList_copyR {P : Program} {w : World} {ops : Array Oper} {rest : List Oper} {o : Oper} {a : Act} {Q : Exit → Act → World → Prop} (hgd : o.guard = none) (d x : Operand) (t : TypeId)
    (hop : o.op = Op.call { callee := Callee.builtin Builtin.copy, args := #[d, x], argTypes := #[t, t] }) (v u : Value) (hd : a.eval d = v) (hx : a.eval x = u) {v' : Value} {w' : World}
    (hr : (Builtin.copy_ #[t, t] o.type #[v, u]).run P w = .ok v' w') (h : wpList P ops Q rest (a.put o.dst v') w') : wpList P ops Q (o :: rest) a w := by
  refine wpList_plain hgd fun K hK => ?_
  unfold Oper.wp
  simp [execOp, hop, resolve, invoke, builtin, hd, hx, hr, Result.andThen]
  exact hK _ _ h
theorem cut_at {l : List Pl} {k : Nat} (h : k < l.length) : ∃ A x B, l = A ++ x :: B ∧ A.length = k ∧ l.take k = A ∧ l.drop k = x :: B := by
  refine ⟨l.take k, l[k], l.drop (k + 1), ?_, by simp; omega, rfl, ?_⟩
  · rw [← List.drop_eq_getElem_cons h, List.take_append_drop]
  · rw [← List.drop_eq_getElem_cons h]
set_option maxRecDepth 100000 in
set_option maxHeartbeats 4000000 in
theorem insert_mid_room (w : World) (base b cap vb : Nat) (pre post : List Value) (A B : List Pl) (x p : Pl) (hbase : base ≤ b) (hb : RowB w b (pre ++ Pls (A ++ x :: B) ++ post)) (hcap : cap ≤ maxLen) (hpost : cap * 2 ≤ (A ++ x :: B).length * 2 + post.length) (hlt : (A ++ x :: B).length < cap)
    (hv : Box w vb (cPl p).toArray 72) (hne : vb ≠ b) :
    Calls Try.prog 53 #[.slice (some ⟨b, pre.length, none⟩) (A ++ x :: B).length cap, .int .i64 (A.length : Nat), .slice (some ⟨vb, 0, none⟩) 1 1] w fun e w' => Ins w base (.slice (some ⟨b, pre.length, none⟩) (A ++ x :: B).length cap) (A ++ p :: x :: B) w' e := by
  obtain ⟨old, rest, rfl, ho⟩ := take2 (post := post) (by omega)
  -- the row: pre, A, (x :: B), old, rest; first copy writes x :: B one place on
  obtain ⟨M, hM⟩ : ∃ M, M = (x :: B : List Pl) := ⟨_, rfl⟩
  have hMl : M.length = B.length + 1 := by rw [hM]; rfl
  have hb0 : RowB w b ((pre ++ Pls A) ++ Pls M ++ (old ++ rest)) := by rw [hM]; simpa [Pls_app, List.append_assoc] using hb
  have hb1 : RowB w b ((pre ++ Pls A ++ cPl x) ++ (Pls B ++ old) ++ rest) := by simpa [Pls_app, Pls_cons, List.append_assoc] using hb
  have hlA : (pre ++ Pls A).length = pre.length + A.length * 2 := by rw [List.length_append, Pls_len]
  have hlAx : (pre ++ Pls A ++ cPl x).length = pre.length + (A.length + 1) * 2 := by rw [List.length_append, hlA]; simp [cPl]; omega
  have hcp1 : ∀ ty dc sc, (Builtin.copy_ #[84, 84] ty #[.slice (some ⟨b, pre.length + (A.length + 1) * 2, none⟩) M.length dc, .slice (some ⟨b, pre.length + A.length * 2, none⟩) (M.length + 1) sc]).run Try.prog w.drew = .ok (goInt M.length) (w.drew.setRow b (pre ++ Pls A ++ cPl x ++ Pls M ++ rest).toArray) := fun ty dc sc => by
    rw [← hlAx]
    refine run_copyK w.drew ty b (pre ++ Pls A ++ cPl x) (Pls B ++ old) rest (Pls M) ⟨b, pre.length + A.length * 2, none⟩ M.length dc (M.length + 1) sc hb1 (by rw [List.length_append, ho, Pls_len, Pls_len]; omega) M.length (by show min (M.length + 1) M.length = M.length; omega) (Pls_len _) (fun j v h => ?_) (Pls_one _)
    rw [← hlA]; exact RowB.cells hb0 j v h
  have hW1 : RowB (w.drew.setRow b (pre ++ Pls A ++ cPl x ++ Pls M ++ rest).toArray) b ((pre ++ Pls A) ++ cPl x ++ (Pls M ++ rest)) := by
    have := RowB.set_ (Box.drew hb) (ds := pre ++ Pls A ++ cPl x ++ Pls M ++ rest)
    simpa [List.append_assoc] using this
  have hv1 : Box (w.drew.setRow b (pre ++ Pls A ++ cPl x ++ Pls M ++ rest).toArray) vb (cPl p).toArray 72 := Box.fr (Box.drew hv) (fr_setRow w.drew b _) (fun e => hne e)
  have hF1 : Fr (fun y => y = b) w (w.drew.setRow b (pre ++ Pls A ++ cPl x ++ Pls M ++ rest).toArray) := ((Fr.refl _ w).drew).trans (fr_setRow w.drew b _)
  generalize w.drew.setRow b (pre ++ Pls A ++ cPl x ++ Pls M ++ rest).toArray = W1 at hcp1 hW1 hv1 hF1
  have hcp2 : ∀ ty dc, (Builtin.copy_ #[84, 84] ty #[.slice (some ⟨b, pre.length + A.length * 2, none⟩) (M.length + 1) dc, .slice (some ⟨vb, 0, none⟩) 1 1]).run Try.prog W1 = .ok (goInt 1) (W1.setRow b ((pre ++ Pls A) ++ cPl p ++ (Pls M ++ rest)).toArray) := fun ty dc => by
    rw [← hlA]
    refine run_copyK W1 ty b (pre ++ Pls A) (cPl x) (Pls M ++ rest) (cPl p) ⟨vb, 0, none⟩ (M.length + 1) dc 1 1 hW1 rfl 1 (by show min 1 (M.length + 1) = 1; omega) rfl (fun j v h => ?_) (cPl_one p)
    exact sub_one W1 vb p hv1 j v h
  have hN : LnAt (W1.setRow b ((pre ++ Pls A) ++ cPl p ++ (Pls M ++ rest)).toArray) base (.slice (some ⟨b, pre.length, none⟩) ((A ++ x :: B).length + 1) cap) (A ++ p :: x :: B) ∧ RowTo w (W1.setRow b ((pre ++ Pls A) ++ cPl p ++ (Pls M ++ rest)).toArray) (.slice (some ⟨b, pre.length, none⟩) (A ++ x :: B).length cap) (.slice (some ⟨b, pre.length, none⟩) ((A ++ x :: B).length + 1) cap) := by
    refine ⟨.inr ⟨b, pre, rest, cap, by simp; omega, hbase, ?_, by simp at hlt ⊢; omega, hcap, by simp at hpost ⊢; omega⟩, ⟨(hF1.trans (fr_setRow _ b _)).mono (fun k _ h => by rw [h]; rfl), .inl rfl⟩⟩
    have := RowB.set_ hW1 (ds := (pre ++ Pls A) ++ cPl p ++ (Pls M ++ rest))
    rw [Pls_app, Pls_cons, ← hM]
    simpa [List.append_assoc] using this
  generalize hcs : ((pre ++ Pls A) ++ cPl p ++ (Pls M ++ rest)).toArray = cs at hcp2 hN
  have hnl : (A ++ x :: B).length = A.length + M.length := by rw [← hM, List.length_append]
  rw [hnl] at hN hlt ⊢
  obtain ⟨k, hk⟩ : ∃ k, A.length = k := ⟨_, rfl⟩
  obtain ⟨m, hm⟩ : ∃ k, M.length = k := ⟨_, rfl⟩
  obtain ⟨o, hoo⟩ : ∃ n, pre.length = n := ⟨_, rfl⟩
  simp only [hk, hm, hoo] at hcp1 hcp2 hN hlt ⊢
  have hm0 : 0 < m := by omega
  have hsa : w.shape? vb = some (72, 2) := by unfold Box at hv; simp [World.shape?, hv, cPl]
  obtain ⟨tB, kB, hsb, hkB⟩ : ∃ tB kB, w.shape? b = some (tB, kB) ∧ kB ≠ 0 := by unfold RowB Box at hb; exact ⟨_, _, by simp only [World.shape?, hb]; rfl, by simp [Pls, cPl]⟩
  have hfa : w.frozen? ⟨vb, 0, none⟩ = false := hv.frozen 0
  have hfe : w.frozen? ⟨vb, 2, none⟩ = false := hv.frozen 2
  have z2 : ∀ w, (Go.sizeOf 72).run Try.prog w = .ok 2 w := by
    intro w; obtain ⟨i, hi, _, hsz, _⟩ := pl_parts; simp [sizeOf, typeInfo, hi, hsz]
  have hov : ∀ off lb cb, (callFunc 60 #[.slice (some ⟨vb, 0, none⟩) 1 1, .slice (some ⟨b, off, none⟩) lb cb]).run Try.prog w = .ok (.value (.bool false)) w := fun off lb cb => by
    rw [run_callFunc_extern Try.func60 (by kernel_rfl) (by kernel_rfl) (by kernel_rfl) (e := Extern.SlicesOverlaps.overlaps #[84, 84] #[4]) (by kernel_rfl),
      Lib.run_overlaps_apart w 84 4 72 Try.underlying84 2 z2 ⟨vb, 0, none⟩ ⟨b, off, none⟩ 1 1 lb cb hne 72 tB 2 kB hsa hsb hkB hfa hfe]
    rfl
  have HN := Lib.hid hN
  clear hN hW1 hv1 hF1 hb hb0 hb1 hlA hlAx hnl hM hMl hcs hk hm hoo ho hpost hbase hsa hsb hkB hfa hfe z2 hv
  have hm63 : k + m < 9223372036854775807 := by unfold maxLen at hcap; omega
  have d0 : ¬ ((k : Int) = ((k + m : Nat) : Int)) := by omega
  have d1 : ¬ ((k : Int) = (k : Int) + (m : Int)) := by omega
  have d2 : ¬ (cap = k) := by omega
  have d3 : ¬ (cap = k + 1) := by omega
  have d4 : k ≤ k + m := by omega
  have d5 : k + m ≤ cap := by omega
  have hw1 : IntKind.i64.wrap ((k : Int) + 1) = (k : Int) + 1 := by rw [IntKind.wrap_i64]; omega
  have hw2 : IntKind.i64.wrap (((k : Int) + (m : Int)) + 1) = ((k : Int) + (m : Int)) + 1 := by rw [IntKind.wrap_i64]; omega
  go_enter Try.func53, Try.ntmps53
  go_wp2_with (simp only [hov])
  have hq : k + m + 1 - k = m + 1 := by omega
  have hb5 : (k : Int) ≤ (k : Int) + (m : Int) + 1 := by omega
  have mixed : Try.prog.follows .mixedOrders = true := by kernel_rfl
  have hb1 : (0 : Int) ≤ (k : Int) + 1 := by omega
  have hb3 : (k : Int) ≤ (k : Int) + (m : Int) := by omega
  go_region_law_o (refine step_copyR rfl _ _ 84 rfl _ _ (by simp [Act.eval, Act.put]) (by simp [Act.eval, Act.put]) (hcp1 _ _ _) ?_)
  go_wp2_with (at_builtin; refine wpList_copyR rfl _ _ 84 rfl _ _ rfl rfl (hcp2 _ _) ?_)
  go_ret
  exact ⟨_, rfl, HN.out.1, HN.out.2⟩
set_option maxRecDepth 100000 in
set_option maxHeartbeats 4000000 in
theorem insert_mid_grow (w : World) (base b vb : Nat) (pre post : List Value) (A B : List Pl) (x p : Pl) (hbase : base ≤ w.heap.size) (hb : RowB w b (pre ++ Pls (A ++ x :: B) ++ post)) (hsmall : (A ++ x :: B).length ≤ 100000)
    (hv : Box w vb (cPl p).toArray 72) :
    Calls Try.prog 53 #[.slice (some ⟨b, pre.length, none⟩) (A ++ x :: B).length (A ++ x :: B).length, .int .i64 (A.length : Nat), .slice (some ⟨vb, 0, none⟩) 1 1] w fun e w' => Ins w base (.slice (some ⟨b, pre.length, none⟩) (A ++ x :: B).length (A ++ x :: B).length) (A ++ p :: x :: B) w' e := by
  obtain ⟨M, hM⟩ : ∃ M, M = (x :: B : List Pl) := ⟨_, rfl⟩
  have hMl : 0 < M.length := by rw [hM]; simp
  rw [← hM] at hb hsmall ⊢
  have hnl : (A ++ M).length = A.length + M.length := List.length_append
  rw [hnl] at hsmall ⊢
  obtain ⟨i, hi, hz, hs, hby⟩ := pl_parts
  have hb0 : RowB w b ((pre ++ Pls A) ++ Pls M ++ post) := by simpa [Pls_app, List.append_assoc] using hb
  have hb2 : RowB w b (pre ++ Pls A ++ (Pls M ++ post)) := by simpa [Pls_app, List.append_assoc] using hb
  have hlA : (pre ++ Pls A).length = pre.length + A.length * 2 := by rw [List.length_append, Pls_len]
  have hblt : b < w.heap.size := Box.lt hb
  have hvlt : vb < w.heap.size := hv.lt
  have hold : (Builtin.firstCells i.size A.length (.slice (some ⟨b, pre.length, none⟩) A.length (A.length + M.length))).run Try.prog w.drew = .ok (Pls A).toArray w.drew :=
    run_firstCells_some w.drew i.size A.length ⟨b, pre.length, none⟩ A.length _ (Pls A) (by rw [hs]; exact Pls_len A) (fun j v h => RowB.cells (Box.drew hb2) j v h)
  have hrun : ∀ ty, (Builtin.append_ #[84, 3] ty #[.slice (some ⟨b, pre.length, none⟩) A.length (A.length + M.length), .int .i64 ((M.length + 1 : Nat) : Int)]).run Try.prog w = _ := fun ty =>
    Lib.run_append_grow_zeros (P := Try.prog) w 84 3 ty 72 i _ .i64 .i64 Try.underlying84 Try.underlying3 hi hz (some ⟨b, pre.length, none⟩) A.length (A.length + M.length) (Pls A) hold (M.length + 1) (by omega) (by omega) (by omega) (by omega) (by rw [hby]; omega)
      (by rw [hby]; exact growslice_fits (by omega) (by omega))
  have hge := grownCap_ge w (A.length + (M.length + 1)) (A.length + M.length) 72
  have hcm := grownCap_le_maxLen w (A.length + (M.length + 1)) (A.length + M.length) 72 (by unfold maxLen; omega)
  generalize grownCap w (A.length + (M.length + 1)) (A.length + M.length) 72 = cap at hrun hge hcm
  -- zeros: one place, then as many as M has
  obtain ⟨Z1, Z2, hZ, hZ1, hZ2⟩ : ∃ Z1 Z2, (Builtin.zeroCells (Value.agg #[.int .u32 0, .int .u8 0]).cells (M.length + 1)).toList = Z1 ++ Z2 ∧ Z1.length = 2 ∧ Z2.length = M.length * 2 := by
    have h := zeros_len (M.length + 1)
    exact ⟨_, _, (List.take_append_drop 2 _).symm, by rw [List.length_take, h]; omega, by rw [List.length_drop, h]; omega⟩
  obtain ⟨Z3, hZ3, hZ3l⟩ : ∃ Z3, (Builtin.zeroCells (Value.agg #[.int .u32 0, .int .u8 0]).cells (cap - (A.length + (M.length + 1)))).toList = Z3 ∧ Z3.length = (cap - (A.length + (M.length + 1))) * 2 := ⟨_, rfl, zeros_len _⟩
  have he : ((Pls A).toArray ++ Builtin.zeroCells (Value.agg #[.int .u32 0, .int .u8 0]).cells (M.length + 1) ++ Builtin.zeroCells (Value.agg #[.int .u32 0, .int .u8 0]).cells (cap - (A.length + (M.length + 1)))) = (Pls A ++ Z1 ++ (Z2 ++ Z3)).toArray := by
    apply Array.ext'; simp [hZ, hZ3, List.append_assoc]
  rw [he] at hrun
  have hR0 : RowB (w.drew.alloc (.cells (Pls A ++ Z1 ++ (Z2 ++ Z3)).toArray 72)) w.heap.size (Pls A ++ Z1 ++ (Z2 ++ Z3)) := Box.new w.drew _ _
  have hv0 : Box (w.drew.alloc (.cells (Pls A ++ Z1 ++ (Z2 ++ Z3)).toArray 72)) vb (cPl p).toArray 72 := Box.alloc (Box.drew hv) _
  have hB0 : RowB (w.drew.alloc (.cells (Pls A ++ Z1 ++ (Z2 ++ Z3)).toArray 72)) b ((pre ++ Pls A) ++ Pls M ++ post) := Box.alloc (Box.drew hb0) _
  have hF0 : Fr (fun _ => False) w (w.drew.alloc (.cells (Pls A ++ Z1 ++ (Z2 ++ Z3)).toArray 72)) := (Fr.refl _ w).drew.alloc _
  generalize w.drew.alloc (.cells (Pls A ++ Z1 ++ (Z2 ++ Z3)).toArray 72) = W0 at hrun hR0 hv0 hB0 hF0
  obtain ⟨g, hg⟩ : ∃ g, w.heap.size = g := ⟨_, rfl⟩
  have hgF : ∀ {X Y : World}, Fr (fun _ => False) w X → Fr (fun y => y = g) X Y → Fr (fun _ => False) w Y := fun h1 h2 => h1.trans' h2 (fun k hk e => by omega)
  have hlP : (Pls A).length = A.length * 2 := Pls_len A
  rw [hg] at hR0 hrun
  have hcp1 : ∀ dl, 0 < dl → ∀ ty dc, (Builtin.copy_ #[84, 84] ty #[.slice (some ⟨g, A.length * 2, none⟩) dl dc, .slice (some ⟨vb, 0, none⟩) 1 1]).run Try.prog W0 = .ok (goInt 1) (W0.setRow g (Pls A ++ cPl p ++ (Z2 ++ Z3)).toArray) := fun dl hd ty dc => by
    rw [← hlP]
    exact run_copyK W0 ty g (Pls A) Z1 (Z2 ++ Z3) (cPl p) ⟨vb, 0, none⟩ dl dc 1 1 hR0 hZ1 1 (by show min 1 dl = 1; omega) rfl (sub_one W0 vb p hv0) (cPl_one p)
  have hR1 : RowB (W0.setRow g (Pls A ++ cPl p ++ (Z2 ++ Z3)).toArray) g ((Pls A ++ cPl p) ++ Z2 ++ Z3) := by
    have := RowB.set_ hR0 (ds := Pls A ++ cPl p ++ (Z2 ++ Z3))
    simpa [List.append_assoc] using this
  have hB1 : RowB (W0.setRow g (Pls A ++ cPl p ++ (Z2 ++ Z3)).toArray) b ((pre ++ Pls A) ++ Pls M ++ post) := Box.fr hB0 (fr_setRow W0 g _) (fun e => by omega)
  have hF1 := hgF hF0 (fr_setRow W0 g (Pls A ++ cPl p ++ (Z2 ++ Z3)).toArray)
  generalize W0.setRow g (Pls A ++ cPl p ++ (Z2 ++ Z3)).toArray = W1 at hcp1 hR1 hB1 hF1
  have hlP1 : (Pls A ++ cPl p).length = (A.length + 1) * 2 := by rw [List.length_append, hlP]; simp [cPl]; omega
  have hcp2 : ∀ ty dc sc, (Builtin.copy_ #[84, 84] ty #[.slice (some ⟨g, (A.length + 1) * 2, none⟩) M.length dc, .slice (some ⟨b, pre.length + A.length * 2, none⟩) M.length sc]).run Try.prog W1.drew = .ok (goInt M.length) (W1.drew.setRow g (Pls A ++ cPl p ++ Pls M ++ Z3).toArray) := fun ty dc sc => by
    rw [← hlP1, ← hlA]
    exact run_copyK W1.drew ty g (Pls A ++ cPl p) Z2 Z3 (Pls M) ⟨b, (pre ++ Pls A).length, none⟩ M.length dc M.length sc hR1.drew (by rw [hZ2, Pls_len]) M.length (by show min M.length M.length = M.length; omega) (Pls_len _) (fun j v h => RowB.cells (Box.drew hB1) j v h) (Pls_one _)
  have hN : LnAt (W1.drew.setRow g (Pls A ++ cPl p ++ Pls M ++ Z3).toArray) base (.slice (some ⟨g, 0, none⟩) (A.length + (M.length + 1)) cap) (A ++ p :: M) ∧ RowTo w (W1.drew.setRow g (Pls A ++ cPl p ++ Pls M ++ Z3).toArray) (.slice (some ⟨b, pre.length, none⟩) (A.length + M.length) (A.length + M.length)) (.slice (some ⟨g, 0, none⟩) (A.length + (M.length + 1)) cap) := by
    have h := RowB.set_ (Box.drew hR1) (ds := Pls A ++ cPl p ++ Pls M ++ Z3)
    rw [show A.length + (M.length + 1) = (A ++ p :: M).length by simp]
    refine ⟨LnAt.made h (by omega) (by simp [Pls_app, Pls_cons]) (by simp; omega) hcm (by rw [hZ3l]; simp; omega), ⟨(hgF hF1.drew (fr_setRow _ g _)).mono (fun _ _ h => h.elim), .inr ⟨g, rfl, by omega⟩⟩⟩
  generalize W1.drew.setRow g (Pls A ++ cPl p ++ Pls M ++ Z3).toArray = W2 at hcp2 hN
  obtain ⟨k, hk⟩ : ∃ k, A.length = k := ⟨_, rfl⟩
  obtain ⟨m, hm⟩ : ∃ k, M.length = k := ⟨_, rfl⟩
  obtain ⟨o, hoo⟩ : ∃ n, pre.length = n := ⟨_, rfl⟩
  simp only [hk, hm, hoo] at hrun hcp1 hcp2 hN hMl hsmall hge ⊢
  have HN := Lib.hid hN
  have HC1 := Lib.hid (hcp1 (m + 1) (by omega))
  have HC2 := Lib.hid hcp2
  have HR := Lib.hid hrun
  clear hN hrun hcp1 hcp2 hR0 hv0 hB0 hF0 hR1 hB1 hF1 hgF hlP hlP1 hlA hb hb0 hb2 hold hi hz hs hby hk hm hoo hM hnl hZ hZ1 hZ2 hZ3 hZ3l he hblt hvlt hbase hv hg
  have hm63 : k + m < 9223372036854775807 := by omega
  have d0 : ¬ ((k : Int) = ((k + m : Nat) : Int)) := by omega
  have d1 : ¬ ((k : Int) = (k : Int) + (m : Int)) := by omega
  have d2 : ¬ (k + m = k) := by omega
  have d4 : k ≤ k + m := by omega
  have d6 : ¬ (cap = k) := by omega
  have d7 : ¬ (cap = k + 1) := by omega
  have hw1 : IntKind.i64.wrap ((k : Int) + 1) = (k : Int) + 1 := by rw [IntKind.wrap_i64]; omega
  have hw2 : IntKind.i64.wrap (((k : Int) + (m : Int)) + 1) = ((k : Int) + (m : Int)) + 1 := by rw [IntKind.wrap_i64]; omega
  have hw3 : IntKind.i64.wrap (((k : Int) + (m : Int)) + 1 - (k : Int)) = (m : Int) + 1 := by rw [IntKind.wrap_i64]; omega
  have mixed : Try.prog.follows .mixedOrders = true := by kernel_rfl
  have hb1 : (0 : Int) ≤ (k : Int) + 1 := by omega
  have hb3 : (k : Int) ≤ (k : Int) + (m : Int) := by omega
  have hq : k + m - k = m := by omega
  have hq2 : k + (m + 1) - (k + 1) = m := by omega
  have hm0 : ¬ m = 0 := by omega
  have hb6 : (1 : Int) ≤ (m : Int) + 1 := by omega
  have hb5 : (k : Int) ≤ (k : Int) + (m : Int) + 1 := by omega
  go_enter Try.func53, Try.ntmps53
  go_wp2_with (first
    | (at_builtin; refine Lib.wpList_append_run _ rfl _ _ _ _ rfl _ _ rfl rfl _ _ (HR.out _) ?_)
    | (refine wpList_copyR rfl _ _ 84 rfl _ _ rfl rfl (HC1.out _ _) ?_))
  go_region_law_o (refine step_copyR rfl _ _ 84 rfl (.slice (some ⟨g, (k + 1) * 2, none⟩) m (cap - (k + 1))) (.slice (some ⟨b, o + k * 2, none⟩) m m) (by simp [Act.eval, Act.put, hm0, hq, hq2]) (by simp [Act.eval, Act.put, hm0, hq, hq2]) (HC2.out _ _ _) ?_)
  go_wp2
  go_ret
  exact ⟨_, rfl, HN.out.1, HN.out.2⟩
theorem insert_any (w : World) (base vb : Nat) (lv : Value) (l : List Pl) (p : Pl) (k : Nat) (hk : k ≤ l.length) (hbase : base ≤ w.heap.size) (h : LnAt w base lv l) (hsmall : l.length ≤ 100000) (hv : Box w vb (cPl p).toArray 72) (hne : lv.ownBlock ≠ some vb) :
    Calls Try.prog 53 #[lv, .int .i64 (k : Nat), .slice (some ⟨vb, 0, none⟩) 1 1] w fun e w' => Ins w base lv (l.take k ++ p :: l.drop k) w' e := by
  rcases h with ⟨rfl, rfl⟩ | ⟨b, pre, post, cap, rfl, h2, h3, h4, h5, h6⟩
  · have : k = 0 := by simpa using hk
    subst this
    exact insert_nil w base vb p hbase hv
  · have hne' : vb ≠ b := fun e => hne (by rw [e]; rfl)
    by_cases hkl : k = l.length
    · subst hkl
      rw [List.take_length, List.drop_length]
      by_cases hc : l.length < cap
      · exact insert_end_room w base b cap vb pre post l p h2 h3 h5 h6 hc hv
      · have : cap = l.length := by omega
        subst this
        exact insert_end_grow w base b vb pre post l p hbase h3 hsmall hv
    · obtain ⟨A, x, B, rfl, hA, e1, e2⟩ := cut_at (l := l) (k := k) (by omega)
      subst hA
      rw [e1, e2]
      by_cases hc : (A ++ x :: B).length < cap
      · exact insert_mid_room w base b cap vb pre post A B x p h2 h3 h5 h6 hc hv hne'
      · have : cap = (A ++ x :: B).length := by omega
        subst this
        exact insert_mid_grow w base b vb pre post A B x p hbase h3 hsmall hv
end Go.Proofs.Ytpndcpmfcajmdaa.Lock
namespace Go.Proofs.Ytpndcpmfcajmdaa.Lock
open Go.ChangeShapes Go.WideShapes Go.ChangeAt Go.RowKit Go.IntWalk Go.Proofs.Mem Law Go.Shelf
set_option linter.unusedVariables false
set_option linter.unusedSimpArgs false
def Pred (g : Nat) (lb : Array Value) (p : Pl → Bool) (w : World) (l : List Pl) : Prop :=
  ∀ (W : World) (x : Pl), x ∈ l → Below w.heap.size w W → Calls Try.prog g (#[.agg #[.int .u32 x.t, .int .u8 x.m]] ++ lb) W fun e w' => e = .returned (.bool (p x)) ∧ Below w.heap.size w w'
def At (p : Pl → Bool) (l : List Pl) (r : Int) : Prop := (r = -1 ∧ ∀ x ∈ l, p x = false) ∨ ∃ k x, r = (k : Nat) ∧ l[k]? = some x ∧ p x = true ∧ ∀ y ∈ l.take k, p y = false
def hF (l : List Pl) (k : Nat) (p : Pl → Bool) : Prop := ∀ y ∈ l.take k, p y = false
theorem hF_step {l : List Pl} {k : Nat} {p : Pl → Bool} {x : Pl} (h : hF l k p) (hx : l[k]? = some x) (hp : p x = false) : hF l (k + 1) p := by
  intro y hy
  rw [List.take_add_one, hx] at hy
  rcases List.mem_append.1 hy with h1 | h1
  · exact h y h1
  · simp at h1; rw [h1]; exact hp
set_option maxRecDepth 100000 in
set_option maxHeartbeats 4000000 in
theorem index_any (w : World) (v : Value) (l : List Pl) (g : Nat) (lb : Array Value) (p : Pl → Bool) (eg : ∀ args w, (callFunc g args).run Try.prog w = .ok (.enter g args) w) (hv : SS cPl 2 w w.heap.size v l) (hp : Pred g lb p w l) :
    Calls Try.prog 51 #[v, .func (.func g) #[] lb] w fun e w' => (∃ r, e = .returned (.int .i64 r) ∧ At p l r) ∧ Below w.heap.size w w' := by
  obtain ⟨A, c, rfl, hc1, hc2⟩ := hv.form
  obtain ⟨N, hN⟩ : ∃ N, N = l.length := ⟨_, rfl⟩
  have HV := Lib.hid hv
  have HP := Lib.hid hp
  have HN := Lib.hid hN
  have bN : (N : Int) ≤ 9223372036854775807 := by unfold maxLen at hc2; omega
  have hN2 := hN.symm
  rw [hN2]
  clear hv hp hN hN2 hc1 hc2
  go_enter Try.func51, Try.ntmps51
  go_wp2
  go_loopw [5, 8] (fun _ s wr => ∃ k : Nat, k ≤ N ∧ s = .int .i64 k ∧ Hid (hF l k p) ∧ Hid (Below w.heap.size w wr)) (fun _ s _ => N - (intOf s).toNat)
  case atStart => exact ⟨0, Nat.zero_le _, rfl, Lib.hid (fun y hy => by simp at hy), Lib.hid (Below.refl _ _)⟩
  case round =>
    obtain ⟨k, hk, rfl, HF, HB⟩ := hrel
    obtain ⟨w0, rfl⟩ : ∃ w0, w0 = wr := ⟨wr, rfl⟩
    by_cases hl : k < N
    · have d1 : decide ((k : Int) < (N : Int)) = true := by simp; omega
      have d1' : decide (k < N) = true := by simp; omega
      obtain ⟨x, hx⟩ : ∃ x, l[k]? = some x := ⟨_, List.getElem?_eq_getElem (by have := HN.out; omega)⟩
      obtain ⟨b, off, rfl, hb, hcell⟩ := HV.out.at_ hx
      have k1 : w0.cell? ⟨b, off + k * 2, none⟩ = some (.int .u32 x.t) := (HB.out.cell (p := ⟨b, off + k * 2, none⟩) hb).trans (hcell 0 _ rfl)
      have k2 : w0.cell? ⟨b, off + k * 2 + 1, none⟩ = some (.int .u8 x.m) := (HB.out.cell (p := ⟨b, off + k * 2 + 1, none⟩) hb).trans (hcell 1 _ rfl)
      have HC := Lib.hid (HP.out w0 x (List.mem_of_getElem? hx) HB.out)
      have HX := Lib.hid hx
      clear hcell hb hx
      obtain ⟨q, hq⟩ : ∃ q, p x = q := ⟨_, rfl⟩
      rw [hq] at HC
      have HQ := Lib.hid hq
      clear hq
      cases q with
      | true =>
        go_wp2_with (go_at_fn g; (with_reducible refine HC.out.mono ?_); rintro e w1 ⟨rfl, hb1⟩; have HB1 := Lib.hid hb1; clear hb1)
        go_ret
        exact ⟨⟨_, rfl, .inr ⟨k, x, rfl, HX.out, HQ.out, HF.out⟩⟩, HB1.out⟩
      | false =>
        go_wp2_with (go_at_fn g; (with_reducible refine HC.out.mono ?_); rintro e w1 ⟨rfl, hb1⟩; have HB1 := Lib.hid hb1; clear hb1)
        go_roundw
        case rel => exact ⟨k + 1, by omega, by go_num, Lib.hid (hF_step HF.out HX.out HQ.out), HB1⟩
        case measure => simp [intOf]; omega
    · have hkN : k = N := by omega
      have d1 : decide ((k : Int) < (N : Int)) = false := by simp; omega
      have d1' : decide (k < N) = false := by simp; omega
      have HE := Lib.hid (show ∀ x ∈ l, p x = false from fun x hx => HF.out x (by rw [hkN, HN.out, List.take_length]; exact hx))
      clear hkN
      go_wp2
      go_ret
      exact ⟨⟨_, rfl, .inl ⟨rfl, HE.out⟩⟩, HB.out⟩
theorem At.neg {p : Pl → Bool} {l : List Pl} {r : Int} (h : At p l r) : decide (0 ≤ r) = l.any p := by
  rcases h with ⟨rfl, h⟩ | ⟨k, x, rfl, hx, hp, _⟩
  · have : l.any p = false := by rw [List.any_eq_false]; intro x hx; simp [h x hx]
    rw [this]; rfl
  · have : l.any p = true := List.any_eq_true.2 ⟨x, List.mem_of_getElem? hx, hp⟩
    rw [this]; simp
set_option maxRecDepth 100000 in
set_option maxHeartbeats 4000000 in
theorem contains_any (w : World) (v : Value) (l : List Pl) (g : Nat) (lb : Array Value) (p : Pl → Bool) (eg : ∀ args w, (callFunc g args).run Try.prog w = .ok (.enter g args) w) (hv : SS cPl 2 w w.heap.size v l) (hp : Pred g lb p w l) :
    Calls Try.prog 49 #[v, .func (.func g) #[] lb] w fun e w' => e = .returned (.bool (l.any p)) ∧ Below w.heap.size w w' := by
  have HC := Lib.hid (index_any w v l g lb p eg hv hp)
  obtain ⟨q, hq⟩ : ∃ q, l.any p = q := ⟨_, rfl⟩
  rw [hq]
  have HQ := Lib.hid hq
  clear hv hp eg hq
  go_enter Try.func49, Try.ntmps49
  go_wp2_with fail
  (with_reducible refine HC.out.mono ?_)
  rintro e w1 ⟨⟨r, rfl, hr⟩, hb⟩
  have d1 : decide (0 ≤ r) = q := hr.neg.trans HQ.out
  have HB := Lib.hid hb
  clear hr hb HC
  go_wp2
  go_ret
  exact ⟨rfl, HB.out⟩
def isT (txn : Int) (x : Pl) : Bool := decide (x.t = txn)
theorem u32eq (a b : Int) : (a == b) = decide (a = b) := by by_cases h : a = b <;> simp [h]
set_option maxRecDepth 100000 in
set_option maxHeartbeats 4000000 in
theorem of_1 (W : World) (x : Pl) (B : Nat) (txn : Int) (hB : B < W.heap.size) (hc : W.cell? ⟨B, 0, none⟩ = some (.int .u32 txn)) :
    Calls Try.prog 47 #[.agg #[.int .u32 x.t, .int .u8 x.m], .pointer (some ⟨B, 0, none⟩)] W fun e w' => e = .returned (.bool (isT txn x)) ∧ Below W.heap.size W w' := by
  obtain ⟨a, b⟩ := x
  have HB := Lib.hid (new_ (Below.refl W.heap.size W) (.cells #[.int .u32 a, .int .u8 b] 72))
  have c2 : (W.alloc (.cells #[.int .u32 a, .int .u8 b] 72)).cell? ⟨B, 0, none⟩ = some (.int .u32 txn) := (HB.out.cell (p := ⟨B, 0, none⟩) hB).trans hc
  have HE := u32eq a txn
  have hd : isT txn ⟨a, b⟩ = decide (a = txn) := rfl
  rw [hd]
  obtain ⟨q, hq⟩ : ∃ q, decide (a = txn) = q := ⟨_, rfl⟩
  rw [hq] at HE ⊢
  clear hc hd
  go_enter Try.func47, Try.ntmps47
  go_wp2
  go_ret
  exact ⟨rfl, HB.out⟩
set_option maxRecDepth 100000 in
set_option maxHeartbeats 4000000 in
theorem rel_1 (W : World) (x : Pl) (B : Nat) (txn : Int) (hB : B < W.heap.size) (hc : W.cell? ⟨B, 0, none⟩ = some (.int .u32 txn)) :
    Calls Try.prog 37 #[.agg #[.int .u32 x.t, .int .u8 x.m], .pointer (some ⟨B, 0, none⟩)] W fun e w' => e = .returned (.bool (isT txn x)) ∧ Below W.heap.size W w' := by
  obtain ⟨a, b⟩ := x
  have HB := Lib.hid (new_ (Below.refl W.heap.size W) (.cells #[.int .u32 a, .int .u8 b] 72))
  have c2 : (W.alloc (.cells #[.int .u32 a, .int .u8 b] 72)).cell? ⟨B, 0, none⟩ = some (.int .u32 txn) := (HB.out.cell (p := ⟨B, 0, none⟩) hB).trans hc
  have HE := u32eq a txn
  have hd : isT txn ⟨a, b⟩ = decide (a = txn) := rfl
  rw [hd]
  obtain ⟨q, hq⟩ : ∃ q, decide (a = txn) = q := ⟨_, rfl⟩
  rw [hq] at HE ⊢
  clear hc hd
  go_enter Try.func37, Try.ntmps37
  go_wp2
  go_ret
  exact ⟨rfl, HB.out⟩
set_option maxRecDepth 100000 in
set_option maxHeartbeats 4000000 in
theorem wait_1 (W : World) (x : Pl) (B e m n : Nat) (lv : Value) (h : Int → Option Int) (hB : B < W.heap.size) (hc : W.cell? ⟨B, 0, none⟩ = some (.pointer (some ⟨e, 0, none⟩))) (hb : Box W e #[.map (some m), lv] 86) (hf : FM KU VM W m n h) (hx : U32 x.t) :
    Calls Try.prog 52 #[.agg #[.int .u32 x.t, .int .u8 x.m], .pointer (some ⟨B, 0, none⟩)] W fun r w' => r = .returned (.bool (!(h x.t).isSome)) ∧ Below W.heap.size W w' := by
  obtain ⟨a, b⟩ := x
  have hbe := new_ (Below.refl W.heap.size W) (.cells #[.int .u32 a, .int .u8 b] 72)
  have c2 : (W.alloc (.cells #[.int .u32 a, .int .u8 b] 72)).cell? ⟨B, 0, none⟩ = some (.pointer (some ⟨e, 0, none⟩)) := (hbe.cell (p := ⟨B, 0, none⟩) hB).trans hc
  have HC := Lib.hid (holds_any (W.alloc (.cells #[.int .u32 a, .int .u8 b] 72)) e m n lv h a (hb.alloc _) (hf.later hbe) hx)
  have HB := Lib.hid hbe
  obtain ⟨q, hq⟩ : ∃ q, (h a).isSome = q := ⟨_, rfl⟩
  show Calls _ _ _ _ fun r w' => r = .returned (.bool (!(h a).isSome)) ∧ _
  rw [hq] at HC ⊢
  clear hb hf hx hc hbe hq
  go_enter Try.func52, Try.ntmps52
  go_wp2_with fail
  (with_reducible refine HC.out.mono ?_)
  rintro e w1 ⟨rfl, rfl⟩
  go_wp2
  go_ret
  exact ⟨rfl, HB.out⟩
end Go.Proofs.Ytpndcpmfcajmdaa.Lock
namespace Go.Proofs.Ytpndcpmfcajmdaa.Lock
open Go.ChangeShapes Go.WideShapes Go.ChangeAt Go.RowKit Go.IntWalk Go.Proofs.Mem Go.Proofs.Each Law
set_option linter.unusedVariables false
set_option linter.unusedSimpArgs false
def insP (h : Int → Option Int) (p : Pl) (l : List Pl) : List Pl :=
  if (h p.t).isSome then l.takeWhile (fun x => (h x.t).isSome) ++ p :: l.dropWhile (fun x => (h x.t).isSome) else l ++ [p]
theorem take_while_at {P : Pl → Bool} : ∀ {l : List Pl} {k : Nat} {x : Pl}, l[k]? = some x → P x = false → (∀ y ∈ l.take k, P y = true) → l.takeWhile P = l.take k ∧ l.dropWhile P = l.drop k
  | [], k, x, h, _, _ => by simp at h
  | y :: l, 0, x, h, hp, _ => by
    simp at h; subst h
    simp [hp]
  | y :: l, k + 1, x, h, hp, ha => by
    have hy := ha y (by simp)
    obtain ⟨h1, h2⟩ := take_while_at (l := l) (k := k) (x := x) (by simpa using h) hp (fun z hz => ha z (by simp [hz]))
    simp [hy, h1, h2]
theorem take_while_all {P : Pl → Bool} {l : List Pl} (h : ∀ x ∈ l, P x = true) : l.takeWhile P = l ∧ l.dropWhile P = [] := by
  induction l with
  | nil => simp
  | cons y l ih =>
    have hy := h y (by simp)
    obtain ⟨h1, h2⟩ := ih (fun z hz => h z (by simp [hz]))
    simp [hy, h1, h2]
theorem insP_none {h : Int → Option Int} {p : Pl} {l : List Pl} (hp : (h p.t).isSome = false) : insP h p l = l.take l.length ++ p :: l.drop l.length := by
  unfold insP; rw [hp]; simp
theorem insP_all {h : Int → Option Int} {p : Pl} {l : List Pl} (hp : (h p.t).isSome = true) (ha : ∀ x ∈ l, (!(h x.t).isSome) = false) : insP h p l = l.take l.length ++ p :: l.drop l.length := by
  obtain ⟨h1, h2⟩ := take_while_all (P := fun x => (h x.t).isSome) (l := l) (fun x hx => by simpa using ha x hx)
  unfold insP; rw [if_pos hp, h1, h2]; simp
theorem insP_at {h : Int → Option Int} {p : Pl} {l : List Pl} {k : Nat} {x : Pl} (hp : (h p.t).isSome = true) (hx : l[k]? = some x) (hq : (!(h x.t).isSome) = true) (ha : ∀ y ∈ l.take k, (!(h y.t).isSome) = false) : insP h p l = l.take k ++ p :: l.drop k := by
  obtain ⟨h1, h2⟩ := take_while_at (P := fun x => (h x.t).isSome) hx (by simpa using hq) (fun y hy => by simpa using ha y hy)
  unfold insP; rw [if_pos hp, h1, h2]
def WaitOut (w w' : World) (e m base : Nat) (lv : Value) (l' : List Pl) : Prop := ∃ lv', Box w' e #[.map (some m), lv'] 86 ∧ LnAt w' base lv' l' ∧ Fr (fun x => lv.ownBlock = some x ∨ x = e) w w' ∧ (lv'.ownBlock = lv.ownBlock ∨ ∀ k, lv'.ownBlock = some k → w.heap.size ≤ k)
set_option maxRecDepth 100000 in
set_option maxHeartbeats 8000000 in
theorem wait_any (w : World) (e m n base : Nat) (lv : Value) (h : Int → Option Int) (l : List Pl) (t md : Int) (hb : Box w e #[.map (some m), lv] 86) (hf : FM KU VM w m n h) (hl : LnAt w base lv l) (hbase : base ≤ w.heap.size) (hle : lv.ownBlock ≠ some e) (hsmall : l.length ≤ 100000) (ht : U32 t) (hok : ∀ x ∈ l, U32 x.t) :
    Calls Try.prog 35 #[.pointer (some ⟨e, 0, none⟩), .agg #[.int .u32 t, .int .u8 md]] w fun r w' => r = .returned (.tuple #[]) ∧ WaitOut w w' e m base lv (insP h ⟨t, md⟩ l) := by
  obtain ⟨A, c, hlv, hc1, hc2⟩ := hl.form
  have b1 := new_ (Below.refl w.heap.size w) (.cells #[.pointer (some ⟨e, 0, none⟩)] 69)
  have s1 : (w.alloc (.cells #[.pointer (some ⟨e, 0, none⟩)] 69)).heap.size = w.heap.size + 1 := by simp
  have b2 := new_ b1 (.cells #[.int .u32 t, .int .u8 md] 72)
  have X0 := (Box.new w #[.pointer (some ⟨e, 0, none⟩)] 69).alloc (.cells #[.int .u32 t, .int .u8 md] 72)
  have X1 := Box.new (w.alloc (.cells #[.pointer (some ⟨e, 0, none⟩)] 69)) #[.int .u32 t, .int .u8 md] 72
  rw [s1] at X1
  have hE := hb.lt
  have hHs := hl.lt
  have XE := hb.later b2
  have XF := hf.later b2
  have XL := hl.later b2
  have s2 : ((w.alloc (.cells #[.pointer (some ⟨e, 0, none⟩)] 69)).alloc (.cells #[.int .u32 t, .int .u8 md] 72)).heap.size = w.heap.size + 1 + 1 := by simp
  obtain ⟨W0, hW0⟩ : ∃ W0, (w.alloc (.cells #[.pointer (some ⟨e, 0, none⟩)] 69)).alloc (.cells #[.int .u32 t, .int .u8 md] 72) = W0 := ⟨_, rfl⟩
  rw [hW0] at b2 X0 X1 XE XF XL s2
  have k1 : W0.cell? ⟨e, 1, none⟩ = some lv := by rw [XE.cell 1]; rfl
  rw [hlv] at k1
  have k0 : W0.cell? ⟨w.heap.size, 0, none⟩ = some (.pointer (some ⟨e, 0, none⟩)) := by rw [X0.cell 0]; rfl
  have k2 : W0.cell? ⟨w.heap.size + 1, 0, none⟩ = some (.int .u32 t) := by rw [X1.cell 0]; rfl
  have CH := Lib.hid (holds_any W0 e m n lv h t XE XF ht)
  have HHS : ∀ b, lv.ownBlock = some b → b < w.heap.size := fun b hb => (hHs b hb).2
  have eg : ∀ args w, (callFunc 52 args).run Try.prog w = .ok (.enter 52 args) w := enters_of Try.func52 (by kernel_rfl) rfl
  have CI := Lib.hid (index_any W0 lv l 52 #[.pointer (some ⟨w.heap.size, 0, none⟩)] (fun x => !(h x.t).isSome) eg XL.ss (fun W x hx hbw => by
    have hs := hbw.size
    exact (wait_1 W x w.heap.size e m n lv h (by omega) ((hbw.cell (p := ⟨w.heap.size, 0, none⟩) (by show w.heap.size < _; omega)).trans k0) (XE.later hbw) (XF.later hbw) (hok x hx)).mono fun _ _ ⟨h1, h2⟩ => ⟨h1, hbw.trans (h2.mono hs)⟩))
  rw [hlv] at CI
  have B0 := Lib.hid (b2 : Below w.heap.size w W0)
  have HX0 := Lib.hid X0
  have HX1 := Lib.hid X1
  have HXE := Lib.hid XE
  have HXL := Lib.hid XL
  have HS2 := Lib.hid s2
  have HLV := Lib.hid hlv
  have HBE := Lib.hid hE
  have HBB := Lib.hid hbase
  have HSML := Lib.hid hsmall
  have HHL := Lib.hid HHS
  have HLE := Lib.hid hle
  have hn63 : (l.length : Int) ≤ 9223372036854775807 := by omega
  have hge0 : decide ((0 : Int) ≤ -1) = false := rfl
  obtain ⟨q, hq⟩ : ∃ q, (h t).isSome = q := ⟨_, rfl⟩
  rw [hq] at CH
  have HQ := Lib.hid hq
  have hW0' := Lib.hid hW0
  clear b1 b2 s1 X0 X1 XE XF XL s2 hE hHs HHS hle hb hf hl hbase hsmall hok eg hlv hc1 hc2 hq ht
  obtain ⟨N, hN⟩ : ∃ N, l.length = N := ⟨_, rfl⟩
  rw [hN] at k1 CI hn63
  have HN := Lib.hid hN
  clear hN
  have FIN : ∀ (k : Nat), k ≤ N → insP h ⟨t, md⟩ l = l.take k ++ ⟨t, md⟩ :: l.drop k → Hid (∃ k, k ≤ l.length ∧ insP h ⟨t, md⟩ l = l.take k ++ ⟨t, md⟩ :: l.drop k) := fun k h1 h2 => Lib.hid ⟨k, by rw [HN.out]; exact h1, h2⟩
  obtain ⟨x0, hx0⟩ : ∃ x0, w.heap.size = x0 := ⟨_, rfl⟩
  obtain ⟨x1, hx1⟩ : ∃ x1, x0 + 1 = x1 := ⟨_, rfl⟩
  rw [hx0] at CI HX0 HX1 HBE HHL k0 k2 HS2
  rw [hx1] at HX1 k2
  have HX01 := Lib.hid (⟨hx0, hx1⟩ : w.heap.size = x0 ∧ x0 + 1 = x1)
  go_enter Try.func35, Try.ntmps35
  go_upto_region 1 with fail
  clear hW0 hx0 hx1
  cases q
  case' false =>
    go_wp2_with (first
      | (go_at_call 48; (with_reducible refine CH.out.mono ?_); rintro er wr ⟨rfl, rfl⟩))
    have FK := FIN N (Nat.le_refl _) (by rw [← HN.out]; exact insP_none HQ.out)
    obtain ⟨k, hk⟩ : ∃ k, N = k := ⟨_, rfl⟩
    have HK := Lib.hid (show k ≤ l.length by rw [HN.out, hk]; exact Nat.le_refl _)
    have HIN := Lib.hid (show insP h ⟨t, md⟩ l = l.take k ++ ⟨t, md⟩ :: l.drop k by rw [← hk, ← HN.out]; exact insP_none HQ.out)
    obtain ⟨w1, hw1⟩ : ∃ w1, W0 = w1 := ⟨_, rfl⟩
    have hbW := Lib.hid (show Below W0.heap.size W0 w1 by rw [hw1]; exact Below.refl _ _)
    rw [hk, hw1]
    clear hk hw1
  case' true =>
    go_wp2_with (first
      | (go_at_call 48; (with_reducible refine CH.out.mono ?_); rintro er wr ⟨rfl, rfl⟩))
    obtain ⟨w1, hw1⟩ : ∃ w1, w1 = W0 := ⟨_, rfl⟩
    go_wp2_with fail
    (with_reducible refine CI.out.mono ?_)
    rintro er wr ⟨⟨r, rfl, hr⟩, hbr⟩
    have hbW := Lib.hid hbr
    clear hbr hw1 w1
    obtain ⟨w1, rfl⟩ : ∃ w1, w1 = wr := ⟨_, rfl⟩
    rcases hr with ⟨rfl, hr⟩ | ⟨k, x, rfl, hx, hp, ha⟩
    case' inl =>
      have HIN0 := Lib.hid (insP_all (p := ⟨t, md⟩) HQ.out hr)
      clear hr
      go_upto_region 6 with fail
      obtain ⟨k, hk⟩ : ∃ k, N = k := ⟨_, rfl⟩
      have HK := Lib.hid (show k ≤ l.length by rw [HN.out, hk]; exact Nat.le_refl _)
      have HIN := Lib.hid (show insP h ⟨t, md⟩ l = l.take k ++ ⟨t, md⟩ :: l.drop k by rw [← hk, ← HN.out]; exact HIN0.out)
      rw [hk]
      clear hk HIN0
    case' inr =>
      have HIN := Lib.hid (insP_at (p := ⟨t, md⟩) HQ.out hx hp ha)
      have HK := Lib.hid (show k ≤ l.length by have := (List.getElem?_eq_some_iff.1 hx).1; omega)
      have d1 : decide ((0 : Int) ≤ (k : Int)) = true := by simp
      clear hx hp ha
      go_upto_region 6 with fail
  all_goals
    have HRL := Lib.hid (show ∀ b, lv.ownBlock = some b → b < x0 ∧ b < w1.heap.size ∧ x0 < w1.heap.size ∧ x1 < w1.heap.size ∧ b < x1 from fun b hb => by have := HHL.out b hb; have := hbW.out.size; have := HS2.out; have := HX01.out.2; omega)
    have HEL := Lib.hid (show e < x0 ∧ e < x1 ∧ e < w1.heap.size by have := HBE.out; have := hbW.out.size; have := HS2.out; have := HX01.out.2; omega)
    have BX0 := Lib.hid (HX0.out.later hbW.out)
    have BX1 := Lib.hid (HX1.out.later hbW.out)
    have BXE := Lib.hid (HXE.out.later hbW.out)
    have HLN := Lib.hid (HXL.out.later hbW.out)
    have HBS := Lib.hid (show base ≤ w1.heap.size by have := HBB.out; have := hbW.out.size; have := HS2.out; have := HX01.out; omega)
    have HSM := Lib.hid (show l.length ≤ 100000 from HSML.out)
    have HB1 := Lib.hid (show Below w.heap.size w w1 from B0.out.trans (hbW.out.mono B0.out.size))
    have HRG : lv.ownBlock ≠ some e := HLE.out
    clear HX0 HX1 HXE HXL hbW HHL HBE HS2 HBB HSML CI CH k0 k1 k2 FIN hge0
    refine wp_region_app (by kernel_rfl) (by kernel_rfl) lv.ownBlock e 8 11 86 (fun v => #[.map (some m), v]) [(fun v _ => v = .pointer (some ⟨e, 0, none⟩)), (fun v _ => v = .pointer (some ⟨e, 0, none⟩)), (fun v _ => v = .pointer (some ⟨e, 0, none⟩)), (fun v _ => v = .pointer (some ⟨e, 1, none⟩)), (fun v _ => v = lv), (fun v _ => v = .int .i64 (k : Nat)), (fun v _ => v = .agg #[.int .u32 t, .int .u8 md]), (fun v W => ∃ g1, v = .slice (some ⟨g1, 0, none⟩) 1 1 ∧ w1.heap.size ≤ g1 ∧ Box W g1 #[.int .u32 t, .int .u8 md] 72), (fun v W => LnAt W base v (l.take k ++ ⟨t, md⟩ :: l.drop k) ∧ (v.ownBlock = lv.ownBlock ∨ ∀ k, v.ownBlock = some k → w1.heap.size ≤ k)), (fun v _ => v = .pointer (some ⟨e, 0, none⟩)), (fun v _ => v = .pointer (some ⟨e, 1, none⟩)), (fun v _ => v = undef)] (by decide) (by intro o ho; injection ho with ho; subst ho; exact ⟨⟨8, .data⟩, by simp, rfl, rfl⟩) HRG ?_ (fun vals => ?_) (fun vals W hfr hbx hall _ => ?_) (by decide)
    · intro j v W W' hj hsz hf h
      match j, hj, h with
      | 0, _, h => exact h
      | 1, _, h => exact h
      | 2, _, h => exact h
      | 3, _, h => exact h
      | 4, _, h => exact h
      | 5, _, h => exact h
      | 6, _, h => exact h
      | 7, _, h => obtain ⟨g1, e1, e2, e3⟩ := h; exact ⟨g1, e1, e2, e3.fr hf (fun hk => by rcases hk with ⟨_, h1⟩ | h1; (have := HRL.out _ h1; omega); (have := HEL.out; omega))⟩
      | 8, _, h => exact ⟨h.1.fr hf (fun b hb hs => by rcases hs with ⟨h1, _⟩ | h1; (exact h1 rfl); (rcases h.2 with h2 | h2; (rw [h2] at hb; exact HRG (by rw [hb, h1])); (have := h2 b hb; have := HEL.out; omega))), h.2⟩
      | 9, _, h => exact h
      | 10, _, h => exact h
      | 11, hj, _ => exact absurd rfl hj
      | _ + 12, _, _ => trivial
    · simp only [ObL, Act.put, List.setIfInBounds_toArray, List.set_cons_succ, List.set_cons_zero]
      refine ⟨?_, ?_, ?_, ?_, ?_, ?_, ?_, ?_, ?_, ?_, ?_, ?_, trivial⟩
      · intro L W hL hk hC hw
        clear hw
        have k0 : W.cell? ⟨x0, 0, none⟩ = some (.pointer (some ⟨e, 0, none⟩)) := by rw [(BX0.out.fr hC (fun hk => by rcases hk with ⟨_, h1⟩ | ⟨_, h1⟩; (have := HRL.out _ h1; omega); (have := HEL.out; omega))).cell]; rfl
        clear hL hC hk
        refine step_plain rfl ?_
        go_simp
        first | exact ⟨Ra.same _, Fa.val (by decide) rfl rfl⟩ | exact ⟨_, rfl, Ra.same _, Fa.val (by decide) rfl rfl⟩
      · intro L W hL hk hC hw
        clear hw
        have k0 : W.cell? ⟨x0, 0, none⟩ = some (.pointer (some ⟨e, 0, none⟩)) := by rw [(BX0.out.fr hC (fun hk => by rcases hk with ⟨_, h1⟩ | ⟨_, h1⟩; (have := HRL.out _ h1; omega); (have := HEL.out; omega))).cell]; rfl
        clear hL hC hk
        refine step_plain rfl ?_
        go_simp
        first | exact ⟨Ra.same _, Fa.val (by decide) rfl rfl⟩ | exact ⟨_, rfl, Ra.same _, Fa.val (by decide) rfl rfl⟩
      · intro L W hL hk hC hw
        have f1 : vals 1 = .pointer (some ⟨e, 0, none⟩) := Fa.get (hw ⟨1, .data⟩ (by simp) rfl) (by decide)
        clear hw
        clear hL hC hk
        refine step_plain rfl ?_
        go_simp
        first | exact ⟨Ra.same _, Fa.val (by decide) rfl rfl⟩ | exact ⟨_, rfl, Ra.same _, Fa.val (by decide) rfl rfl⟩
      · intro L W hL hk hC hw
        have f2 : vals 2 = .pointer (some ⟨e, 0, none⟩) := Fa.get (hw ⟨2, .data⟩ (by simp) rfl) (by decide)
        clear hw
        clear hL hC hk
        refine step_plain rfl ?_
        go_simp
        first | exact ⟨Ra.same _, Fa.val (by decide) rfl rfl⟩ | exact ⟨_, rfl, Ra.same _, Fa.val (by decide) rfl rfl⟩
      · intro L W hL hk hC hw
        have f3 : vals 3 = .pointer (some ⟨e, 1, none⟩) := Fa.get (hw ⟨3, .data⟩ (by simp) rfl) (by decide)
        clear hw
        have bx := hC.box BXE.out (hL.not_yet hk 11 8 (by decide +kernel)) HRG
        have kc : W.cell? ⟨e, 1, none⟩ = some lv := by rw [bx.cell]; rfl
        clear bx
        clear hL hC hk
        refine step_plain rfl ?_
        go_simp
        first | exact ⟨Ra.same _, Fa.val (by decide) rfl rfl⟩ | exact ⟨_, rfl, Ra.same _, Fa.val (by decide) rfl rfl⟩
      · intro L W hL hk hC hw
        clear hw
        clear hL hC hk
        refine step_plain rfl ?_
        go_simp
        first | exact ⟨Ra.same _, Fa.val (by decide) rfl rfl⟩ | exact ⟨_, rfl, Ra.same _, Fa.val (by decide) rfl rfl⟩
      · intro L W hL hk hC hw
        clear hw
        have bb := BX1.out.fr hC (fun hk => by rcases hk with ⟨_, h1⟩ | ⟨_, h1⟩; (have := HRL.out _ h1; omega); (have := HEL.out; omega))
        have k0 : W.cell? ⟨x1, 0, none⟩ = some (.int .u32 t) := by rw [bb.cell]; rfl
        have k1 : W.cell? ⟨x1, 1, none⟩ = some (.int .u8 md) := by rw [bb.cell]; rfl
        clear bb
        clear hL hC hk
        refine step_plain rfl ?_
        go_simp
        first | exact ⟨Ra.same _, Fa.val (by decide) rfl rfl⟩ | exact ⟨_, rfl, Ra.same _, Fa.val (by decide) rfl rfl⟩
      · intro L W hL hk hC hw
        have f6 : vals 6 = .agg #[.int .u32 t, .int .u8 md] := Fa.get (hw ⟨6, .data⟩ (by simp) rfl) (by decide)
        clear hw
        have hsz := Lib.hid (show w1.heap.size ≤ W.heap.size from hC.size)
        clear hL hC hk
        refine step_plain rfl ?_
        go_simp
        have hz := new_ (Below.refl W.heap.size W) (.cells #[.int .u32 t, .int .u8 md] 72)
        first | exact ⟨Ra.of_below hz, Fa.val (by decide) rfl ⟨_, rfl, hsz.out, Box.new _ _ _⟩⟩ | exact ⟨_, rfl, Ra.of_below hz, Fa.val (by decide) rfl ⟨_, rfl, hsz.out, Box.new _ _ _⟩⟩
      · intro L W hL hk hC hw
        have f4 : vals 4 = lv := Fa.get (hw ⟨4, .data⟩ (by simp) rfl) (by decide)
        have f5 : vals 5 = .int .i64 (k : Nat) := Fa.get (hw ⟨5, .data⟩ (by simp) rfl) (by decide)
        have f7 : ∃ g1, (vals 7) = .slice (some ⟨g1, 0, none⟩) 1 1 ∧ w1.heap.size ≤ g1 ∧ Box W g1 #[.int .u32 t, .int .u8 md] 72 := Fa.get (hw ⟨7, .data⟩ (by simp) rfl) (by decide)
        clear hw
        have hb := hC.below hk (hL.not_yet hk 11 8 (by decide +kernel))
        have ow := HLN.out.later hb
        obtain ⟨g1, e7, hg1, hbx1⟩ := f7
        have hsz := hb.size
        have hne : lv.ownBlock ≠ some g1 := fun h => by have := HRL.out _ h; omega
        have CI := Lib.hid (insert_any W base g1 lv l ⟨t, md⟩ k HK.out (Nat.le_trans HBS.out hsz) ow HSM.out hbx1 hne)
        have HSZ := Lib.hid hsz
        clear hL hC hk hb ow hbx1 hsz hne
        refine step_plain rfl ?_
        go_simp
        (with_reducible refine CI.out.mono ?_)
        rintro e9 w2 ⟨v1, rfl, ho1, hr1⟩
        have hk2 : v1.ownBlock = lv.ownBlock ∨ ∀ k, v1.ownBlock = some k → w1.heap.size ≤ k := hr1.own.imp id (fun ⟨q, h, h2⟩ k hk => by rw [h] at hk; injection hk with hk; have := HSZ.out; omega)
        have hR : Ra lv.ownBlock e 8 11 8 W w2 := hr1.fr.mono (fun x _ h => .inl ⟨rfl, h⟩)
        first | exact ⟨hR, Fa.val (by decide) rfl ⟨ho1, hk2⟩⟩ | exact ⟨_, rfl, hR, Fa.val (by decide) rfl ⟨ho1, hk2⟩⟩
      · intro L W hL hk hC hw
        have f0 : vals 0 = .pointer (some ⟨e, 0, none⟩) := Fa.get (hw ⟨0, .data⟩ (by simp) rfl) (by decide)
        clear hw
        clear hL hC hk
        refine step_plain rfl ?_
        go_simp
        first | exact ⟨Ra.same _, Fa.val (by decide) rfl rfl⟩ | exact ⟨_, rfl, Ra.same _, Fa.val (by decide) rfl rfl⟩
      · intro L W hL hk hC hw
        have f9 : vals 9 = .pointer (some ⟨e, 0, none⟩) := Fa.get (hw ⟨9, .data⟩ (by simp) rfl) (by decide)
        clear hw
        clear hL hC hk
        refine step_plain rfl ?_
        go_simp
        first | exact ⟨Ra.same _, Fa.val (by decide) rfl rfl⟩ | exact ⟨_, rfl, Ra.same _, Fa.val (by decide) rfl rfl⟩
      · intro L W hL hk hC hw
        have f10 : vals 10 = .pointer (some ⟨e, 1, none⟩) := Fa.get (hw ⟨10, .data⟩ (by simp) rfl) (by decide)
        have f8 : LnAt W base (vals 8) (l.take k ++ ⟨t, md⟩ :: l.drop k) ∧ ((vals 8).ownBlock = lv.ownBlock ∨ ∀ k, (vals 8).ownBlock = some k → w1.heap.size ≤ k) := Fa.get (hw ⟨8, .data⟩ (by simp) rfl) (by decide)
        clear hw
        have bx := hC.box BXE.out hk HRG
        obtain ⟨h8, h9⟩ := f8
        obtain ⟨A2, l2, e21, _, _⟩ := h8.form
        obtain ⟨L8, hL8⟩ : ∃ n, (l.take k ++ ⟨t, md⟩ :: l.drop k).length = n := ⟨_, rfl⟩
        rw [hL8] at e21
        clear h8 hL8
        have kc : W.cell? ⟨e, 1, none⟩ = some lv := by rw [bx.cell]; rfl
        have fc := bx.frozen 1
        clear hL hC hk
        refine step_plain rfl ?_
        go_simp
        have hb9 := Box.set_ bx 1 (.slice A2 L8 l2)
        exact ⟨Fr.setCell (Fr.refl _ _) (p := ⟨e, 1, none⟩) (.inl (.inr ⟨rfl, rfl⟩)) _, undef, Fa.last (by decide) (by rw [e21]; exact hb9)⟩
    · simp only [TL, Act.put, List.setIfInBounds_toArray, List.set_cons_succ, List.set_cons_zero]
      have h8 := hall 8 (by decide) (by decide)
      obtain ⟨h9, h10⟩ : LnAt W base (vals 8) (l.take k ++ ⟨t, md⟩ :: l.drop k) ∧ ((vals 8).ownBlock = lv.ownBlock ∨ ∀ k, (vals 8).ownBlock = some k → w1.heap.size ≤ k) := h8
      clear hall
      have HO := Lib.hid (show WaitOut w W e m base lv (insP h ⟨t, md⟩ l) from ⟨vals 8, hbx, by rw [HIN.out]; exact h9, (Fr.of_below HB1.out).trans' hfr (fun i hi hs => hs), h10.imp id (fun h k hk => Nat.le_trans HB1.out.size (h k hk))⟩)
      clear h9 h10 hbx hfr
      go_end0
      exact ⟨rfl, HO.out⟩
end Go.Proofs.Ytpndcpmfcajmdaa.Lock
namespace Go.Proofs.Ytpndcpmfcajmdaa.Lock
open Go.ChangeShapes Go.WideShapes Go.ChangeAt Go.RowKit Go.IntWalk Go.Proofs.Mem Law Go.Shelf
set_option linter.unusedVariables false
set_option linter.unusedSimpArgs false
def Zs (n : Nat) : List Value := (Builtin.zeroCells (Value.agg #[.int .u32 0, .int .u8 0]).cells n).toList
theorem Zs_len (n : Nat) : (Zs n).length = n * 2 := zeros_len n
theorem Zs_one (n : Nat) : ∀ v ∈ Zs n, v.oneCell' = true := by
  intro v hv
  unfold Zs Builtin.zeroCells at hv
  simp [Value.cells] at hv
  obtain ⟨i, _, rfl⟩ := hv
  rcases Nat.mod_two_eq_zero_or_one i with h | h <;> rw [h] <;> rfl
theorem run_clearK (w : World) (ty : TypeId) (g : Nat) (pre mid post : List Value) (n c : Nat) (hn : 0 < n) (hb : RowB w g (pre ++ mid ++ post)) (hm : mid.length = n * 2) :
    (Builtin.clear_ #[84] ty #[.slice (some ⟨g, pre.length, none⟩) n c]).run Try.prog w = .ok (.tuple #[]) (w.setRow g (pre ++ Zs n ++ post).toArray) := by
  have hst := run_storeCells_at Try.prog g pre.length 72 (Zs n) 0 _ w hb (by simp [Zs_len]; omega) (Zs_one n)
  have e := take_drop3 pre mid post (Zs n) (by rw [hm, Zs_len])
  simp only [Nat.add_zero] at hst
  rw [e] at hst
  obtain ⟨i, hi, hz, _, _⟩ := pl_parts
  obtain ⟨m, rfl⟩ : ∃ m, n = m + 1 := ⟨n - 1, by omega⟩
  have hz2 : (zeroValue 72).run Try.prog w = .ok (Value.agg #[.int .u32 0, .int .u8 0]) w := by simp [zeroValue, typeInfo, hi, hz]
  unfold Zs at hst ⊢
  simp only [Builtin.clear_, run_underlying Try.underlying84]
  simp [run_underlying Try.underlying84, hz2]
  rw [hst]
  simp only [Result.andThen_ok, List.append_assoc]
theorem set_pl {R : List Pl} {i : Nat} (hi : i < R.length) (pre post : List Value) (a b : Int) :
    ((pre ++ Pls R ++ post).toArray.setIfInBounds (pre.length + i * 2) (.int .u32 a)).setIfInBounds (pre.length + i * 2 + 1) (.int .u8 b) = (pre ++ Pls (R.set i ⟨a, b⟩) ++ post).toArray := by
  obtain ⟨A, x, B, rfl, rfl, _, _⟩ := cut_at hi
  have e1 : (A ++ x :: B).set A.length ⟨a, b⟩ = A ++ ⟨a, b⟩ :: B := by simp
  rw [e1]
  apply Array.ext'
  have hl : (pre ++ Pls A).length = pre.length + A.length * 2 := by rw [List.length_append, Pls_len]
  simp only [Array.toList_setIfInBounds, Pls_app, Pls_cons, cPl, ← hl]
  rw [show pre ++ (Pls A ++ ([Value.int .u32 x.t, Value.int .u8 x.m] ++ Pls B)) ++ post = (pre ++ Pls A) ++ (Value.int .u32 x.t :: Value.int .u8 x.m :: (Pls B ++ post)) by simp]
  rw [List.set_append_right _ _ (Nat.le_refl _), Nat.sub_self, List.set_cons_zero, List.set_append_right _ _ (by omega), Nat.add_sub_cancel_left]
  simp
def PredF (g : Nat) (lb : Array Value) (p : Pl → Bool) (w : World) (S : Nat → Prop) (l : List Pl) : Prop :=
  ∀ (W : World) (x : Pl), x ∈ l → Fr S w W → Calls Try.prog g (#[.agg #[.int .u32 x.t, .int .u8 x.m]] ++ lb) W fun e w' => e = .returned (.bool (p x)) ∧ Below W.heap.size W w'
theorem PredF.pred {g : Nat} {lb : Array Value} {p : Pl → Bool} {w : World} {S : Nat → Prop} {l : List Pl} (h : PredF g lb p w S l) : Pred g lb p w l :=
  fun W x hx hb => (h W x hx (Fr.of_below hb)).mono fun _ _ ⟨h1, h2⟩ => ⟨h1, hb.trans (h2.mono hb.size)⟩
structure Del (p : Pl → Bool) (l R : List Pl) (i j : Nat) : Prop where
  len : R.length = l.length
  front : R.take i = (l.take j).filter fun x => !p x
  back : R.drop j = l.drop j
  cnt : ((l.take j).filter fun x => !p x).length = i
  lt : i < j
theorem Del.start {p : Pl → Bool} {l : List Pl} {k : Nat} {x : Pl} (hx : l[k]? = some x) (hp : p x = true) (ha : ∀ y ∈ l.take k, p y = false) : Del p l l k (k + 1) := by
  have hk : k < l.length := (List.getElem?_eq_some_iff.1 hx).1
  have h1 : (l.take k).filter (fun x => !p x) = l.take k := List.filter_eq_self.2 (fun y hy => by simp [ha y hy])
  have h2 : (l.take (k + 1)).filter (fun x => !p x) = l.take k := by rw [List.take_add_one, hx, List.filter_append, h1]; simp [hp]
  exact ⟨rfl, h2.symm, rfl, by rw [h2]; simp; omega, Nat.lt_succ_self _⟩
theorem Del.skip {p : Pl → Bool} {l R : List Pl} {i j : Nat} {x : Pl} (h : Del p l R i j) (hx : l[j]? = some x) (hp : p x = true) : Del p l R i (j + 1) := by
  have h2 : (l.take (j + 1)).filter (fun x => !p x) = (l.take j).filter fun x => !p x := by rw [List.take_add_one, hx, List.filter_append]; simp [hp]
  refine ⟨h.len, by rw [h2]; exact h.front, ?_, by rw [h2]; exact h.cnt, by have := h.lt; omega⟩
  have := congrArg (List.drop 1) h.back
  simpa [List.drop_drop] using this
theorem Del.keep {p : Pl → Bool} {l R : List Pl} {i j : Nat} {x : Pl} (h : Del p l R i j) (hx : l[j]? = some x) (hp : p x = false) : Del p l (R.set i x) (i + 1) (j + 1) := by
  have hj : j < l.length := (List.getElem?_eq_some_iff.1 hx).1
  have hl := h.lt
  have hR := h.len
  have h2 : (l.take (j + 1)).filter (fun x => !p x) = (l.take j).filter (fun x => !p x) ++ [x] := by rw [List.take_add_one, hx, List.filter_append]; simp [hp]
  refine ⟨by simp [hR], ?_, ?_, by rw [h2, List.length_append, h.cnt]; rfl, by omega⟩
  · rw [h2, ← h.front, List.take_add_one, List.getElem?_set_self (by omega)]
    simp [List.take_set_of_le (Nat.le_refl i)]
  · have := congrArg (List.drop 1) h.back
    simp [List.drop_drop] at this
    rw [List.drop_set_of_lt (by omega)]
    exact this
theorem Del.at_ {p : Pl → Bool} {l R : List Pl} {i j : Nat} (h : Del p l R i j) : R[j]? = l[j]? := by
  have := congrArg (fun q : List Pl => q[0]?) h.back
  simpa using this
def DelOut (w w' : World) (base : Nat) (lv : Value) (l' : List Pl) (e : Ending) : Prop := ∃ lv', e = .returned lv' ∧ LnAt w' base lv' l' ∧ Fr (fun x => lv.ownBlock = some x) w w' ∧ lv'.ownBlock = lv.ownBlock
set_option maxRecDepth 100000 in
set_option maxHeartbeats 8000000 in
theorem delete_any (w : World) (base : Nat) (lv : Value) (l : List Pl) (g : Nat) (lb : Array Value) (p : Pl → Bool) (eg : ∀ args w, (callFunc g args).run Try.prog w = .ok (.enter g args) w) (hl : LnAt w base lv l) (hp : PredF g lb p w (fun x => lv.ownBlock = some x) l) :
    Calls Try.prog 36 #[lv, .func (.func g) #[] lb] w fun e w' => DelOut w w' base lv (l.filter fun x => !p x) e := by
  have CI := Lib.hid (index_any w lv l g lb p eg hl.ss hp.pred)
  have HL := Lib.hid hl
  have HP := Lib.hid hp
  obtain ⟨A, c, hlv, hc1, hc2⟩ := hl.form
  rcases hl with ⟨rfl, rfl⟩ | ⟨b, pre, post, cap, rfl, h2, h3, h4, h5, h6⟩
  · clear hlv hc1 hc2 HP hp
    go_enter Try.func36, Try.ntmps36
    go_wp2_with fail
    (with_reducible refine CI.out.mono ?_)
    rintro er w1 ⟨⟨r, rfl, hr⟩, hb⟩
    rcases hr with ⟨rfl, _⟩ | ⟨k, x, rfl, hx, _, _⟩
    · have HB := Lib.hid hb
      clear hb
      go_wp2
      go_ret
      exact ⟨_, rfl, LnAt.nil _ _, Fr.of_below HB.out, rfl⟩
    · simp at hx
  · clear hlv hc1 hc2 hp A c
    obtain ⟨N, hN⟩ : ∃ N, l.length = N := ⟨_, rfl⟩
    obtain ⟨o, ho⟩ : ∃ o, pre.length = o := ⟨_, rfl⟩
    have HN := Lib.hid hN
    have HO := Lib.hid ho
    have H3 := Lib.hid h3
    have H6 := Lib.hid h6
    have H2 := Lib.hid h2
    have hN63 : (N : Int) ≤ 9223372036854775807 := by unfold maxLen at h5; omega
    have hNc : N ≤ cap := by omega
    have hcap : (cap : Int) ≤ 9223372036854775807 := by unfold maxLen at h5; omega
    have H5 := Lib.hid h5
    rw [hN, ho] at CI HP HL ⊢
    clear hN ho h2 h3 h4 h5 h6
    go_enter Try.func36, Try.ntmps36
    go_wp2_with fail
    (with_reducible refine CI.out.mono ?_)
    rintro er w1 ⟨⟨r, rfl, hr⟩, hb⟩
    have HB := Lib.hid hb
    clear hb
    rcases hr with ⟨rfl, ha⟩ | ⟨k, x, rfl, hx, hpx, ha⟩
    · have HA := Lib.hid ha
      clear ha
      go_wp2
      go_ret
      refine ⟨_, rfl, ?_, Fr.of_below HB.out, rfl⟩
      rw [List.filter_eq_self.2 (fun y hy => by simp [HA.out y hy])]
      exact HL.out.later HB.out
    · have hk : k < N := by have := (List.getElem?_eq_some_iff.1 hx).1; have := HN.out; omega
      have HD := Lib.hid (Del.start hx hpx ha)
      have HR1 := Lib.hid (H3.out.later HB.out)
      have HF1 := Lib.hid (Fr.of_below (S := fun x => x = b) HB.out)
      have dk : ((k : Int) == -1) = false := by rw [beq_eq_false_iff_ne]; omega
      have dk' : ¬ ((k : Int) = -1) := by omega
      have hw1 : IntKind.i64.wrap ((k : Int) + 1) = ((k + 1 : Nat) : Int) := by rw [IntKind.wrap_i64]; omega
      clear hx hpx ha HB
      go_wp2_with fail
      go_loopw [5, 6, 7] (fun s5 s6 _ wr => ∃ (i j : Nat) (R : List Pl), j ≤ N ∧ i < j ∧ s5 = .int .i64 i ∧ s6 = .int .i64 j ∧ Hid (Del p l R i j) ∧ Hid (RowB wr b (pre ++ Pls R ++ post)) ∧ Hid (Fr (fun x => x = b) w wr)) (fun _ s6 _ _ => N - (intOf s6).toNat)
      case atStart => exact ⟨k, k + 1, l, by omega, by omega, rfl, rfl, HD, HR1, HF1⟩
      case round =>
        obtain ⟨i, j, R, hj, hij, rfl, rfl, HD2, HR2, HF2⟩ := hrel
        obtain ⟨w2, rfl⟩ : ∃ w2, w2 = wr := ⟨wr, rfl⟩
        by_cases hjl : j < N
        · have d1 : decide ((j : Int) < (N : Int)) = true := by simp; omega
          have d1' : decide (j < N) = true := by simp; omega
          obtain ⟨x, hx⟩ : ∃ x, l[j]? = some x := ⟨_, List.getElem?_eq_getElem (by have := HN.out; omega)⟩
          have hRx : R[j]? = some x := by rw [HD2.out.at_]; exact hx
          have hc : ∀ q u, (cPl x)[q]? = some u → w2.cell? ⟨b, o + j * 2 + q, none⟩ = some u := fun q u hu => by
            have hq : q < 2 := by rw [← cPl_len x]; exact (List.getElem?_eq_some_iff.1 hu).1
            have := RowB.cells HR2.out (j * 2 + q) u (by unfold Pls; rw [flat_at cPl_len R j x q hRx hq]; exact hu)
            rw [Go.WideShapes.add_plain, HO.out] at this
            rw [Nat.add_assoc]; exact this
          have k1 : w2.cell? ⟨b, o + j * 2, none⟩ = some (.int .u32 x.t) := hc 0 _ rfl
          have k2 : w2.cell? ⟨b, o + j * 2 + 1, none⟩ = some (.int .u8 x.m) := hc 1 _ rfl
          have HX := Lib.hid hx
          have HXM := Lib.hid (List.mem_of_getElem? hx)
          clear hc hRx hx
          obtain ⟨a, md⟩ := x
          go_upto_region 8 with fail
          have hb3 := new_ (Below.refl w2.heap.size w2) (.cells #[.int .u32 a, .int .u8 md] 72)
          have BX := Lib.hid (Box.new w2 #[.int .u32 a, .int .u8 md] 72)
          have HF3 := Lib.hid (HF2.out.below hb3)
          have HR3 := Lib.hid (HR2.out.later hb3)
          have hbl := HR2.out.lt
          obtain ⟨x7, hx7⟩ : ∃ x7, w2.heap.size = x7 := ⟨_, rfl⟩
          rw [hx7] at BX hbl
          obtain ⟨w3, hw3⟩ : ∃ w3, w2.alloc (.cells #[.int .u32 a, .int .u8 md] 72) = w3 := ⟨_, rfl⟩
          rw [hw3] at BX HF3 HR3
          rw [hx7, hw3]
          have CP := Lib.hid (HP.out w3 ⟨a, md⟩ HXM.out (HF3.out.mono fun y _ h => by rw [h]; rfl))
          have HXB := Lib.hid (show b ≠ x7 by omega)
          have hiN : i < N := by omega
          clear hb3 k1 k2 HF2 HR2 hx7 hw3 hbl
          obtain ⟨q, hq⟩ : ∃ q, p ⟨a, md⟩ = q := ⟨_, rfl⟩
          rw [hq] at CP
          have HQ := Lib.hid hq
          have l1 : w3.cell? ⟨x7, 0, none⟩ = some (.int .u32 a) := by rw [BX.out.cell 0]; rfl
          have l2 : w3.cell? ⟨x7, 1, none⟩ = some (.int .u8 md) := by rw [BX.out.cell 1]; rfl
          clear hq
          go_wp2_with fail
          (with_reducible refine CP.out.mono ?_)
          rintro er w4 ⟨rfl, hb4⟩
          have HF4 := Lib.hid (HF3.out.below hb4)
          have HR4 := Lib.hid (HR3.out.later hb4)
          have BX4 := Lib.hid (BX.out.later hb4)
          have k1 : w4.cell? ⟨x7, 0, none⟩ = some (.int .u32 a) := by rw [BX4.out.cell 0]; rfl
          have k2 : w4.cell? ⟨x7, 1, none⟩ = some (.int .u8 md) := by rw [BX4.out.cell 1]; rfl
          clear hb4 HF3 HR3 BX l1 l2
          cases q with
          | true =>
            go_wp2
            go_roundw
            case rel => exact ⟨i, j + 1, R, by omega, by omega, rfl, by go_num, Lib.hid (HD2.out.skip HX.out HQ.out), HR4, HF4⟩
            case measure => simp [intOf]; omega
          | false =>
            obtain ⟨y, hy⟩ : ∃ y, R[i]? = some y := ⟨_, List.getElem?_eq_getElem (by rw [HD2.out.len, HN.out]; omega)⟩
            have hc : ∀ q u, (cPl y)[q]? = some u → w4.cell? ⟨b, o + i * 2 + q, none⟩ = some u := fun q u hu => by
              have hq : q < 2 := by rw [← cPl_len y]; exact (List.getElem?_eq_some_iff.1 hu).1
              have := RowB.cells HR4.out (i * 2 + q) u (by unfold Pls; rw [flat_at cPl_len R i y q hy hq]; exact hu)
              rw [Go.WideShapes.add_plain, HO.out] at this
              rw [Nat.add_assoc]; exact this
            have k3 : w4.cell? ⟨b, o + i * 2, none⟩ = some (.int .u32 y.t) := hc 0 _ rfl
            have k4 : w4.cell? ⟨b, o + i * 2 + 1, none⟩ = some (.int .u8 y.m) := hc 1 _ rfl
            have f3 : w4.frozen? ⟨b, o + i * 2, none⟩ = false := HR4.out.frozen _
            have f4 : w4.frozen? ⟨b, o + i * 2 + 1, none⟩ = false := HR4.out.frozen _
            have HRS := Lib.hid (Box.set_ (Box.set_ HR4.out (o + i * 2) (.int .u32 a)) (o + i * 2 + 1) (.int .u8 md))
            have HFS := Lib.hid ((HF4.out.setCell (p := ⟨b, o + i * 2, none⟩) (.inl rfl) (.int .u32 a)).setCell (p := ⟨b, o + i * 2 + 1, none⟩) (.inl rfl) (.int .u8 md))
            have hset := set_pl (R := R) (i := i) (by rw [HD2.out.len, HN.out]; omega) pre post a md
            rw [HO.out] at hset
            rw [hset] at HRS
            have hw2 : IntKind.i64.wrap ((i : Int) + 1) = ((i + 1 : Nat) : Int) := by rw [IntKind.wrap_i64]; omega
            have hw3 : IntKind.i64.wrap ((j : Int) + 1) = ((j + 1 : Nat) : Int) := by rw [IntKind.wrap_i64]; omega
            clear hc hy hset
            go_wp2
            go_roundw
            case rel => exact ⟨i + 1, j + 1, R.set i ⟨a, md⟩, by omega, by omega, by go_num, by go_num, Lib.hid (HD2.out.keep HX.out HQ.out), HRS, HFS⟩
            case measure => simp [intOf]; omega
        · have hjN : j = N := by omega
          have d1 : decide ((j : Int) < (N : Int)) = false := by simp; omega
          have d1' : decide (j < N) = false := by simp; omega
          have hfl : l.filter (fun x => !p x) = R.take i := by rw [HD2.out.front, hjN, ← HN.out, List.take_length]
          have hRl : R.length = N := by rw [HD2.out.len, HN.out]
          have hsplit : pre ++ Pls R ++ post = (pre ++ Pls (R.take i)) ++ Pls (R.drop i) ++ post := by
            conv => lhs; rw [← List.take_append_drop i R, Pls_app]
            simp [List.append_assoc]
          have hti : (R.take i).length = i := by simp; omega
          have hl2 : (pre ++ Pls (R.take i)).length = o + i * 2 := by rw [List.length_append, Pls_len, hti, HO.out]
          have hR5 := HR2.out
          rw [hsplit] at hR5
          have hcl : ∀ ty c, (Builtin.clear_ #[84] ty #[.slice (some ⟨b, o + i * 2, none⟩) (N - i) c]).run Try.prog w2 = .ok (.tuple #[]) (w2.setRow b ((pre ++ Pls (R.take i)) ++ Zs (N - i) ++ post).toArray) := fun ty c => by
            rw [← hl2]
            exact run_clearK w2 ty b _ _ post (N - i) c (by omega) hR5 (by rw [Pls_len]; simp; omega)
          have HW := Lib.hid (show DelOut w (w2.setRow b ((pre ++ Pls (R.take i)) ++ Zs (N - i) ++ post).toArray) base (.slice (some ⟨b, o, none⟩) N cap) (l.filter fun x => !p x) (.returned (.slice (some ⟨b, o, none⟩) i cap)) from by
            refine ⟨_, rfl, .inr ⟨b, pre, Zs (N - i) ++ post, cap, by rw [hfl, hti, HO.out], H2.out, ?_, by rw [hfl, hti]; omega, H5.out, ?_⟩, (HF2.out.trans (fr_setRow w2 b _)).mono (fun y _ h => by rw [h]; rfl), rfl⟩
            · rw [hfl]
              have := RowB.set_ HR2.out (ds := (pre ++ Pls (R.take i)) ++ Zs (N - i) ++ post)
              simpa [List.append_assoc] using this
            · rw [hfl, hti, List.length_append, Zs_len]; have := H6.out; rw [HN.out] at this; omega)
          generalize w2.setRow b ((pre ++ Pls (R.take i)) ++ Zs (N - i) ++ post).toArray = w3 at hcl HW
          have e1 : ¬ (cap = i) := by omega
          have e2 : i ≤ N := by omega
          clear hfl hRl hsplit hti hl2 hR5
          go_wp2
          go_ret
          exact HW.out
end Go.Proofs.Ytpndcpmfcajmdaa.Lock
namespace Go.Proofs.Mem
open Go.RowKit Go.WideShapes Go.Shelf
set_option linter.unusedVariables false
theorem Sc.of_own {A B : World} {row : Option Nat} (hg : A.grownBy B row) (hr : ∀ r, row = some r → ∃ o : Obj, A.heap[r]? = some o ∧ o.isCells = false) : Sc A B := fun g C t f e => by
  refine (hg.block g (Array.getElem?_eq_some_iff.1 e).1 (fun h => ?_)).trans e
  obtain ⟨o, h1, h2⟩ := hr g h.symm
  rw [e] at h1
  injection h1 with h1
  subst h1
  cases h2
theorem ownFrom_scz {β : Type} {D : Nat} {I : β → World → Prop} (h : ∀ s A B, I s A → Sc A B → A.heap.size ≤ B.heap.size → I s B) : OwnFrom D I := fun s W W' row hs hg hr => h s W W' hs (Sc.of_own hg (fun r e => (hr r e).2)) hg.size
theorem ownFrom_fr {β : Type} {D : Nat} {S : Nat → Prop} {w0 : World} (hS : ∀ k, D ≤ k → S k) : OwnFrom D (fun (_ : β) W => Fr S w0 W) := fun s W W' row hs hg hr => hs.grown hg (fun g e => .inl (hS g (hr g e).1))
theorem keeps_grown {W w' : World} {base n size : Nat} {e : TypeId} {v : Value} {xs : List Value} (hown : W.ownsRow base e size v n xs) (hg : W.grownBy w' v.ownBlock) : KeepsOthers W w' :=
  KeepsOthers.of_grownBy hg fun j o ej hj => by
    rcases hown.2 with ⟨rfl, _⟩ | ⟨g, cap, cur, rfl, _, hgb, _⟩
    · simp [Value.ownBlock] at ej
    · obtain rfl : g = j := by simpa [Value.ownBlock] using ej
      rw [hgb] at hj; cases hj; rfl
theorem fr_grown {S : Nat → Prop} {W w' a : World} {base n size : Nat} {e : TypeId} {v : Value} {xs : List Value} (h : Fr S a W) (hown : W.ownsRow base e size v n xs) (hg : W.grownBy w' v.ownBlock) (hb : ∀ k, base ≤ k → S k) : Fr S a w' :=
  h.grown hg (fun g e => .inl (hb g (hown.lt g e).1))
theorem sc_put {W : World} {D : Nat} {o : Obj} (o' : Obj) (h : W.heap[D]? = some o) (ho : o.isCells = false) : Sc W (W.putObj D o') :=
  Sc.of_own (grownBy_putObj' W D o') (fun r e => by injection e with e; subst e; exact ⟨o, h, ho⟩)
end Go.Proofs.Mem
namespace Go.Proofs.Mem
open Go.RowKit Go.WideShapes Go.Shelf
set_option linter.unusedVariables false
theorem wpIn_rangeFunc_one {F : Fence} {n : Nat} {P : Program} {α : Type} {g : Operand} {p : Tmp} {assign body : Code} {Q : Exit → Act → World → Prop} {a : Act} {w : World} (q : Nat)
    (hro : F.round = none) (h1 : 1 ≤ n) {gf : Nat} {lb : Array Value} (hg : a.eval g = .func (.func gf) #[] lb) (hFg : F.fn gf) (eg : ∀ args w, (callFunc gf args).run P w = .ok (.enter gf args) w)
    {enc : α → Value} {Kp : World → World → Prop} {S Sp : List α → Prop} {N : Nat} {w0 : World} (hseq : SeqStopsK F (n - 1) P gf lb (fun x => #[enc x]) Kp S Sp N w0)
    (hKt : ∀ {A B C : World}, Kp A B → Kp B C → Kp A C) (hKb : ∀ (W : World) (l : Nat) (o o' : Obj), w.heap.size ≤ l → W.heap[l]? = some o → o.isCells = false → o.isWalk = false → Kp W (W.putObj l o')) (hb0 : Below w0.heap.size w0 w)
    (I : List α → World → Prop) (Ix : Code → List α → World → Prop) (hI : OwnFrom w.heap.size I) (hIx : ∀ c, OwnFrom w.heap.size (Ix c)) (h0 : I [] w)
    (hassign : ∀ (l : Nat) (x : α) (W : World) (K : Act → World → Prop), K { tmps := (a.tmps.setIfInBounds p (enc x)).setIfInBounds q (enc x), defers := [] } W →
      assign.wpIn (F.inRound l) (n - 1 - 1) P (Exit.then K (fun _ _ _ => False)) { tmps := a.tmps.setIfInBounds p (enc x), defers := [] } W)
    (hbody : ∀ (l : Nat) (pre : List α) (x : α) (W : World), I pre W → pre.length < N → body.wpIn (F.inRound l) (n - 1 - 1) P (ownPostK Kp I Ix (pre ++ [x]) W) { tmps := (a.tmps.setIfInBounds p (enc x)).setIfInBounds q (enc x), defers := [] } W)
    (hdone : ∀ (D : Nat) (xs : List α) (W : World), w.heap.size ≤ D → S xs → I xs W → W.heap[D]? = some (.deferred (some [])) → Q .normal { a with defers := { target := .collected D, args := #[] } :: a.defers } W)
    (hstop : ∀ (D : Nat) (c : Code) (pre : List α) (W : World), w.heap.size ≤ D → Sp pre → Ix c pre W → W.heap[D]? = some (.deferred (some [])) → c.wpIn F n P Q { a with defers := { target := .collected D, args := #[] } :: a.defers } W) :
    (Code.rangeFunc g #[p] assign body).wpIn F n P Q a w :=
  wpIn_rangeFunc_ownF hro h1 hg hFg eg hseq hKt hKb hb0 (fun _ => rfl) I Ix hI hIx h0 (fun x => { tmps := (a.tmps.setIfInBounds p (enc x)).setIfInBounds q (enc x), defers := [] })
    (fun l x W K hK => by
      have e : (#[p].zip #[enc x]).foldl (fun t (p, v) => t.setIfInBounds p v) a.tmps = a.tmps.setIfInBounds p (enc x) := by simp
      rw [e]
      exact hassign l x W K hK) hbody hdone hstop
end Go.Proofs.Mem
namespace Go.Proofs.Ytpndcpmfcajmdaa.Srt
open Go.ChangeShapes Go.WideShapes Go.ChangeAt Go.RowKit Go.IntWalk Go.Proofs.Mem
set_option linter.unusedVariables false
abbrev lt : Int → Int → Bool := Sort.ltInt
theorem nan_any (x : Int) (w : World) : Calls Try.prog 83 #[.int .u32 x] w fun e w' => e = .returned (.bool false) ∧ w = w' := by
  have d : (x != x) = false := by simp
  go_enter Try.func83, Try.ntmps83
  go_wp2
  go_ret
  exact ⟨by simp, rfl⟩
theorem less_any (x y : Int) (w : World) : Calls Try.prog 68 #[.int .u32 x, .int .u32 y] w fun e w' => e = .returned (.bool (lt x y)) ∧ w = w' := by
  obtain ⟨b, hb⟩ : ∃ b, b = decide (x < y) := ⟨_, rfl⟩
  rw [show lt x y = b from hb.symm]
  have d := hb.symm
  clear hb
  go_enter Try.func68, Try.ntmps68
  go_wp2_with (first | (go_at_call 83; (with_reducible refine (nan_any _ _).mono ?_); rintro e w1 ⟨rfl, rfl⟩))
  go_ret
  exact ⟨rfl, rfl⟩
theorem less_as (x y : Int) {q : Bool} (h : lt x y = q) : Hid (∀ w, Calls Try.prog 68 #[.int .u32 x, .int .u32 y] w fun e w' => e = .returned (.bool q) ∧ w = w') := by
  subst h; exact Lib.hid (less_any x y)
def RA (W : World) (g cap : Nat) (d : Array Int) : Prop := ∃ cur : Array Value, Box W g cur 29 ∧ cur.size = cap ∧ d.size ≤ cap ∧ cap ≤ maxLen ∧ cur.toList.take d.size = d.toList.map (.int .u32)
section
variable {W W' : World} {g cap : Nat} {d : Array Int} {S : Nat → Prop}
theorem RA.cell (h : RA W g cap d) (i : Nat) (hi : i < d.size) : W.cell? ⟨g, i, none⟩ = some (.int .u32 d[i]!) := by
  obtain ⟨cur, hb, hs, hn, _, ht⟩ := h
  have h2 : (d.toList.map (Value.int .u32))[i]? = some (.int .u32 d[i]!) := by simp [hi]
  rw [← ht, List.getElem?_take, if_pos hi] at h2
  rw [hb.cell i]
  simpa using h2
theorem RA.frozen (h : RA W g cap d) (i : Nat) : W.frozen? ⟨g, i, none⟩ = false := by
  obtain ⟨cur, hb, _⟩ := h
  exact hb.frozen i
theorem RA.lt (h : RA W g cap d) : g < W.heap.size := by
  obtain ⟨cur, hb, _⟩ := h
  exact hb.lt
theorem RA.le (h : RA W g cap d) : d.size ≤ cap := by
  obtain ⟨cur, _, _, h, _⟩ := h
  exact h
theorem RA.drewN (h : RA W g cap d) (k : Nat) : RA (W.drewN k) g cap d := h
theorem RA.drew (h : RA W g cap d) : RA W.drew g cap d := h
theorem RA.fr (h : RA W g cap d) (hf : Fr S W W') (hn : ¬ S g) : RA W' g cap d := by
  obtain ⟨cur, hb, r⟩ := h
  exact ⟨cur, hb.fr hf hn, r⟩
theorem RA.later (h : RA W g cap d) (hb : Below W.heap.size W W') : RA W' g cap d := by
  obtain ⟨cur, hc, r⟩ := h
  exact ⟨cur, hc.later hb, r⟩
theorem RA.set_ (h : RA W g cap d) (i : Nat) (x : Int) : RA (W.setCell ⟨g, i, none⟩ (.int .u32 x)) g cap (d.setIfInBounds i x) := by
  obtain ⟨cur, hb, hs, hn, hc, ht⟩ := h
  refine ⟨_, Box.set_ hb i _, by simpa using hs, by simpa using hn, hc, ?_⟩
  rw [Array.toList_setIfInBounds, Array.size_setIfInBounds, List.take_set, ht, Array.toList_setIfInBounds, List.map_set]
theorem RA.swp (h : RA W g cap d) (i j : Nat) : RA ((W.setCell ⟨g, i, none⟩ (.int .u32 d[j]!)).setCell ⟨g, j, none⟩ (.int .u32 d[i]!)) g cap (Sort.swp d i j) := (h.set_ i _).set_ j _
theorem fr_swp {w W : World} {i j : Nat} {u v : Value} (h : Fr (fun x => x = g) w W) : Fr (fun x => x = g) w ((W.setCell ⟨g, i, none⟩ u).setCell ⟨g, j, none⟩ v) :=
  (h.setCell (.inl rfl) _).setCell (.inl rfl) _
theorem RA.of_own {B n : Nat} {xs : List Int} (h : W.ownsRow B 29 1 (.slice (some ⟨g, 0, none⟩) n cap) n (xs.map (.int .u32))) : RA W g cap xs.toArray ∧ xs.length = n ∧ B ≤ g := by
  obtain ⟨h1, h2 | ⟨g', c, cur, e, hb, hg, hn, hc, hs, ht⟩⟩ := h
  · cases h2.1
  · injection e with e1 e2 e3
    injection e1 with e1
    injection e1 with e1
    subst e1 e3
    have h1' : xs.length = n := by simpa using h1
    exact ⟨⟨cur, hg, by simpa using hs, by simpa [h1'] using hn, hc, by simpa [h1'] using ht⟩, h1', hb⟩
theorem RA.own {n : Nat} (h : RA W g cap d) (hn : d.size = n) {B : Nat} (hB : B ≤ g) : W.ownsRow B 29 1 (.slice (some ⟨g, 0, none⟩) n cap) n (d.toList.map (.int .u32)) := by
  obtain ⟨cur, hb, hs, hle, hc, ht⟩ := h
  subst hn
  refine ⟨by simp, .inr ⟨g, cap, cur, rfl, hB, hb, hle, hc, by simpa using hs, ?_⟩⟩
  rw [Nat.mul_one]
  exact ht
end
end Go.Proofs.Ytpndcpmfcajmdaa.Srt
namespace Go.Proofs.Ytpndcpmfcajmdaa.Money
open Go.ChangeShapes Go.WideShapes Go.ChangeAt Go.RowKit Go.IntWalk Go.Proofs.Mem
set_option linter.unusedVariables false
theorem ret_int {k : IntKind} {a b : Int} (h : a = b) : Ending.returned (.int k a) = .returned (.int k b) := by rw [h]
theorem len_up (x : Int) (b : Nat) (h0 : 0 ≤ x) (h : (2 : Int) ^ b ≤ x) : bitLen x.toNat = b + bitLen (x / 2 ^ b).toNat := by
  obtain ⟨n, rfl⟩ := Int.eq_ofNat_of_zero_le h0
  have e : ((2 : Int) ^ b) = ((2 ^ b : Nat) : Int) := by simp
  rw [e] at h ⊢
  rw [Int.toNat_natCast, bitLen_shift n b]
  · congr 2
  · have : 0 < 2 ^ b := Nat.two_pow_pos b
    have h' : 2 ^ b ≤ n := by omega
    have := (Nat.le_div_iff_mul_le this).2 (by omega : 1 * 2 ^ b ≤ n)
    omega
theorem add_i64 (a : Int) (n : Nat) (ha : 0 ≤ a ∧ a ≤ 100) (hn : n ≤ 8) : wrap64 (a + wrap64 (n : Int)) = a + n := by
  rw [wrap64_in (n : Int) (by omega), wrap64_in _ (by omega)]
set_option maxRecDepth 1000000 in
set_option maxHeartbeats 4000000 in
theorem len64_any (x : Int) (h0 : 0 ≤ x) (h1 : x ≤ 18446744073709551615) (w : World) :
    Calls Try.prog 72 #[.int .u64 x] w fun e w' => e = .returned (.int .i64 (bitLen x.toNat)) ∧ w = w' := by
  have u32 := len_up x 32 h0
  rw [show (2 : Int) ^ 32 = 4294967296 from by decide] at u32
  have u16 := len_up x 16 h0
  rw [show (2 : Int) ^ 16 = 65536 from by decide] at u16
  have u8 := len_up x 8 h0
  rw [show (2 : Int) ^ 8 = 256 from by decide] at u8
  have v16 := len_up (x / 4294967296) 16 (by omega)
  rw [show (2 : Int) ^ 16 = 65536 from by decide] at v16
  have v8 := len_up (x / 4294967296) 8 (by omega)
  rw [show (2 : Int) ^ 8 = 256 from by decide] at v8
  have t8 := len_up (x / 65536) 8 (by omega)
  rw [show (2 : Int) ^ 8 = 256 from by decide] at t8
  have s8 := len_up (x / 4294967296 / 65536) 8 (by omega)
  rw [show (2 : Int) ^ 8 = 256 from by decide] at s8
  have U32 := Lib.hid u32
  have U16 := Lib.hid u16
  have U8 := Lib.hid u8
  have V16 := Lib.hid v16
  have V8 := Lib.hid v8
  have T8 := Lib.hid t8
  have S8 := Lib.hid s8
  clear u32 u16 u8 v16 v8 t8 s8
  go_enter Try.func72, Try.ntmps72
  go_wp2_with fail
  all_goals go_ret
  all_goals refine ⟨ret_int ?_, rfl⟩
  all_goals rw [len8tab_get]
  · have a1 : 4294967296 ≤ x := by assumption
    have a2 : 65536 ≤ x / 4294967296 := by assumption
    have a3 : 256 ≤ x / 4294967296 / 65536 := by assumption
    rw [add_i64 _ _ (by omega) (bitLen_le8 _ (by omega)), U32.out a1, V16.out a2, S8.out a3]; omega
  · have a1 : 4294967296 ≤ x := by assumption
    have a2 : 65536 ≤ x / 4294967296 := by assumption
    have a3 : x / 4294967296 / 65536 < 256 := by assumption
    rw [add_i64 _ _ (by omega) (bitLen_le8 _ (by omega)), U32.out a1, V16.out a2]; omega
  · have a1 : 4294967296 ≤ x := by assumption
    have a2 : x / 4294967296 < 65536 := by assumption
    have a3 : 256 ≤ x / 4294967296 := by assumption
    rw [add_i64 _ _ (by omega) (bitLen_le8 _ (by omega)), U32.out a1, V8.out a3]; omega
  · have a1 : 4294967296 ≤ x := by assumption
    have a3 : x / 4294967296 < 256 := by assumption
    rw [add_i64 _ _ (by omega) (bitLen_le8 _ (by omega)), U32.out a1]; omega
  · have a1 : x < 4294967296 := by assumption
    have a2 : 65536 ≤ x := by assumption
    have a3 : 256 ≤ x / 65536 := by assumption
    rw [add_i64 _ _ (by omega) (bitLen_le8 _ (by omega)), U16.out a2, T8.out a3]; omega
  · have a1 : x < 4294967296 := by assumption
    have a2 : 65536 ≤ x := by assumption
    have a3 : x / 65536 < 256 := by assumption
    rw [add_i64 _ _ (by omega) (bitLen_le8 _ (by omega)), U16.out a2]; omega
  · have a2 : x < 65536 := by assumption
    have a3 : 256 ≤ x := by assumption
    rw [add_i64 _ _ (by omega) (bitLen_le8 _ (by omega)), U8.out a3]; omega
  · have a3 : x < 256 := by assumption
    have hb := bitLen_le8 x.toNat (by omega)
    rw [wrap64_in (bitLen x.toNat : Int) (by omega), wrap64_in _ (by omega)]
end Go.Proofs.Ytpndcpmfcajmdaa.Money
