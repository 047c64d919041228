import Derived.Test.YteggcehjpfmikaaFr
import Derived.Test.YteggcehjpfmikaaWt0
import Derived.Test.YteggcehjpfmikaaWt5
import Derived.Test.YteggcehjpfmikaaWt6
import Derived.Laws.CopyOwn
namespace Go.Proofs.Yteggcehjpfmikaa.Strip
open Go.ChangeShapes Go.WideShapes Go.ChangeAt Go.RowKit Go.IntWalk Go.Shelf Go.Proofs.Mem
set_option linter.unusedVariables false
def countS (n : Int) : Int := if n ≤ 0 then 0 else (n + 126) / 127
theorem countS_nat (L : Nat) : countS L = (cnt L : Int) := by unfold countS cnt; split <;> omega
theorem count_any (n : Int) (hn : -9223372036854775808 ≤ n ∧ n ≤ 9223372036854775807) (w : World) : Calls Try.prog 57 #[.int .i64 n] w fun e w' => e = .returned (.int .i64 (countS n)) ∧ w' = w := by
  by_cases h : n ≤ 0
  · have d : decide (n ≤ 0) = true := decide_eq_true h
    have HC := Lib.hid (show countS n = 0 by unfold countS; rw [if_pos h])
    go_enter Try.func57, Try.ntmps57
    go_wp2
    go_ret
    exact ⟨by rw [HC.out]; rfl, rfl⟩
  · have d : decide (n ≤ 0) = false := decide_eq_false h
    have HC := Lib.hid (show (n - 1) / 127 + 1 = countS n by unfold countS; rw [if_neg h]; omega)
    have h1 : 0 < n := by omega
    clear h
    go_enter Try.func57, Try.ntmps57
    go_wp2
    go_ret
    exact ⟨by rw [← HC.out]; rfl, rfl⟩
end Go.Proofs.Yteggcehjpfmikaa.Strip
namespace Go.Proofs.Mem
open Go.RowKit Go.WideShapes
set_option linter.unusedVariables false
section
variable {A : World} {base top g : Nat} {Tu Ts : TypeId} {u v : Value} {xs : List Int} {l : List Rw}
theorem RowAt.put (h : RowAt Tu A base g u xs) (j : Nat) (x : Int) : RowAt Tu (A.setCell ⟨g, j, none⟩ (.int .u8 x)) base g u (xs.set j x) := by
  obtain ⟨cur, cap, rfl, hb, hgg, h1, h2, h3, h4⟩ := h.heap
  have hbx : Box A g cur Tu := hgg
  have hb2 := hbx.set_ j (.int .u8 x)
  refine ⟨⟨cap, by rw [List.length_set]⟩, by simp, .inr ⟨g, cap, _, by rw [List.length_set], hb, hb2, by rw [List.length_set]; exact h1, h3, by simpa using h2, ?_⟩⟩
  have e : (cur.setIfInBounds j (.int .u8 x)).toList = cur.toList.set j (.int .u8 x) := by simp
  rw [e, List.length_set, Nat.mul_one, List.take_set, h4, List.map_set]
theorem row_cell (h : RowAt Tu A base g u xs) (j : Nat) (hj : j < xs.length) : A.cell? ⟨g, j, none⟩ = some (.int .u8 (xs.getD j 0)) := by
  obtain ⟨cur, cap, rfl, hb, hgg, h1, h2, h3, h4⟩ := h.heap
  have hbx : Box A g cur Tu := hgg
  rw [hbx.cell]
  have := congrArg (fun z => z[j]?) h4
  simp only [List.getElem?_take, hj, if_true, List.getElem?_map, List.getElem?_eq_getElem hj, Option.map_some] at this
  rw [← Array.getElem?_toList, this]
  simp [List.getD, List.getElem?_eq_getElem hj]
theorem row_frozen (h : RowAt Tu A base g u xs) (j : Nat) : A.frozen? ⟨g, j, none⟩ = false := by
  obtain ⟨cur, cap, rfl, hb, hgg, h1, h2, h3, h4⟩ := h.heap
  exact Box.frozen (C := cur) (t := Tu) hgg j
theorem Tab.put (h : Tab Tu Ts A base top v l) (ht : Tu ≠ Ts) (i : Nat) (hi : i < l.length) (j : Nat) (x : Int) :
    Tab Tu Ts (A.setCell ⟨l[i].1, j, none⟩ (.int .u8 x)) base top v (l.set i (l[i].1, l[i].2.1, l[i].2.2.set j x)) := by
  have hg := grownBy_set A ⟨l[i].1, j, none⟩ (.int .u8 x)
  have hmem : l[i] ∈ l := List.getElem_mem hi
  have hri := (h.rows _ hmem).1
  refine ⟨?_, fun p hp => ?_, ?_, h.vtop⟩
  · rw [List.length_set]
    have e : (l.set i (l[i].1, l[i].2.1, l[i].2.2.set j x)).map (·.2.1) = l.map (·.2.1) := by
      apply List.ext_getElem?
      intro k
      rw [List.getElem?_map, List.getElem?_map, List.getElem?_set]
      by_cases e : i = k
      · subst e; simp [hi]
      · rw [if_neg e]
    rw [e]
    refine h.outer.kept hg ?_
    rcases h.outer.2 with ⟨hn, _⟩ | ⟨go, cap, cur, e2, _, hgo, _⟩
    · exact .inl (by rw [hn]; rfl)
    · refine .inr (fun e3 => ?_)
      rw [e2] at e3
      injection e3 with e3
      simp only at e3
      obtain ⟨cur', cap', _, _, hgg, _⟩ := hri.heap
      rw [e3, hgg] at hgo
      injection hgo with hgo
      injection hgo with _ e4 _
      exact ht e4
  · rcases List.mem_or_eq_of_mem_set hp with hp' | rfl
    · obtain ⟨k, hk, rfl⟩ := List.mem_iff_getElem.1 hp
      rw [List.length_set] at hk
      by_cases e : i = k
      · subst e
        simp only [List.getElem_set_self]
        exact ⟨hri.put j x, (h.rows _ hmem).2⟩
      · rw [List.getElem_set_ne e]
        have hmk : l[k] ∈ l := List.getElem_mem hk
        refine ⟨(h.rows _ hmk).1.far hg (fun e2 => ?_), (h.rows _ hmk).2⟩
        injection e2 with e2
        simp only at e2
        rcases Nat.lt_or_gt_of_ne e with hlt | hgt
        · exact List.pairwise_iff_getElem.1 h.apart i k hi hk hlt e2
        · exact List.pairwise_iff_getElem.1 h.apart k i hk hi hgt e2.symm
    · exact ⟨hri.put j x, (h.rows _ hmem).2⟩
  · refine List.pairwise_iff_getElem.2 fun a b ha hb hab => ?_
    rw [List.length_set] at ha hb
    have ea : ((l.set i (l[i].1, l[i].2.1, l[i].2.2.set j x))[a]'(by rw [List.length_set]; exact ha)).1 = l[a].1 := by
      by_cases e : i = a
      · subst e; simp
      · rw [List.getElem_set_ne e]
    have eb : ((l.set i (l[i].1, l[i].2.1, l[i].2.2.set j x))[b]'(by rw [List.length_set]; exact hb)).1 = l[b].1 := by
      by_cases e : i = b
      · subst e; simp
      · rw [List.getElem_set_ne e]
    rw [ea, eb]
    exact List.pairwise_iff_getElem.1 h.apart a b ha hb hab
theorem Tab.cell (h : Tab Tu Ts A base top v l) (i : Nat) (hi : i < l.length) : ∃ go cap, v = .slice (some ⟨go, 0, none⟩) l.length cap ∧ A.cell? ⟨go, i, none⟩ = some l[i].2.1 ∧ A.frozen? ⟨go, i, none⟩ = false ∧ l.length ≤ cap ∧ cap ≤ maxLen := by
  rcases h.outer.2 with ⟨_, hn⟩ | ⟨go, cap, cur, rfl, hb, hgg, h1, h2, h3, h4⟩
  · omega
  · have hbx : Box A go cur Ts := hgg
    refine ⟨go, cap, rfl, ?_, hbx.frozen i, h1, h2⟩
    rw [hbx.cell]
    have := congrArg (fun z => z[i]?) h4
    simp only [Nat.mul_one, List.getElem?_take, hi, if_true] at this
    rw [← Array.getElem?_toList, this]
    simp [List.getElem?_eq_getElem hi]
end
end Go.Proofs.Mem
namespace Go.Proofs.Mem
open Go.RowKit Go.WideShapes Go.Shelf
set_option linter.unusedVariables false
theorem row_splice {Tu : TypeId} {w : World} {base g : Nat} {u : Value} {xs ys : List Int} (h : RowAt Tu w base g u xs) (hl : ys.length ≤ xs.length) {cur : Array Value} {t : TypeId} (hg : w.heap[g]? = some (.cells cur t (0, 0))) :
    RowAt Tu (w.setRow g (cur.toList.take 0 ++ ys.map (Value.int .u8) ++ cur.toList.drop (0 + (ys.map (Value.int .u8)).length)).toArray) base g u (ys ++ xs.drop ys.length) := by
  obtain ⟨cur', cap, rfl, hb, hgg, h1, h2, h3, h4⟩ := h.heap
  rw [hg] at hgg
  injection hgg with hgg
  injection hgg with e1 e2 e3
  subst e1 e2
  have hL : (ys ++ xs.drop ys.length).length = xs.length := by simp; omega
  refine ⟨⟨cap, by rw [hL]⟩, by simp, .inr ⟨g, cap, _, by rw [hL], hb, setRow_heap w g cur _ t _ hg, by rw [hL]; exact h1, h3, ?_, ?_⟩⟩
  · simp only [List.size_toArray, List.length_append, List.length_take, List.length_drop, List.length_map, Array.length_toList]; omega
  · rw [hL, Nat.mul_one]
    simp only [List.take_zero, List.nil_append, Nat.zero_add, List.length_map, List.map_append, List.map_drop]
    rw [List.take_append]
    rw [List.length_map, List.take_of_length_le (by rw [List.length_map]; exact hl)]
    congr 1
    rw [← h4, List.drop_take]
theorem copy_runs {P : Program} {w : World} (dT sT oT : TypeId) (elem : TypeId) (hu : P.underlying dT = some (.slice elem)) (hsz : (P.info? elem).map (·.size) = some 1)
    {Tu : TypeId} {base g : Nat} {cap : Nat} {xs : List Int} (hrow : RowAt Tu w base g (.slice (some ⟨g, 0, none⟩) xs.length cap) xs) (B : Nat) (ad : Addr) (c : Nat) (ys : List Int) (hr : IR w B .u8 (.slice (some ad) ys.length c) ys) (hl : ys.length ≤ xs.length) :
    ∃ w', (Builtin.copy_ #[dT, sT] oT #[.slice (some ⟨g, 0, none⟩) xs.length cap, .slice (some ad) ys.length c]).run P w = .ok (goInt ys.length) w' ∧ RowAt Tu w' base g (.slice (some ⟨g, 0, none⟩) xs.length cap) (ys ++ xs.drop ys.length) ∧ w.grownBy w' (some g) := by
  obtain ⟨cur, cap', e, hb, hgg, h1, h2, h3, h4⟩ := hrow.heap
  injection e with _ _ e3
  subst e3
  have hrun := run_copy_row (P := P) w dT sT oT elem g 0 xs.length cap ad ys.length c cur Tu (ys.map (.int .u8)) hu hsz hgg (by rw [List.length_map]; exact (Nat.min_eq_left hl).symm) (fun j v hj => by
    have hjl : j < ys.length := by
      rcases Nat.lt_or_ge j ys.length with hh | hh
      · exact hh
      · rw [List.getElem?_eq_none (by simpa using hh)] at hj; cases hj
    obtain ⟨b, off, e, _, hc⟩ := hr.index j hjl
    injection e with e
    subst e
    rw [Go.WideShapes.add_plain, hc, ← hj]
    simp [List.getD, List.getElem?_eq_getElem hjl]) (by rw [List.length_map]; omega) (fun v hv => by
    obtain ⟨z, _, rfl⟩ := List.mem_map.1 hv
    rfl)
  have e2 : goInt ((ys.map (Value.int .u8)).length : Nat) = goInt ys.length := by rw [List.length_map]
  rw [e2] at hrun
  refine ⟨_, hrun, ?_, ⟨rfl, rfl, rfl, by simp [World.setRow], fun k _ hk => setRow_other w g k _ (fun e => hk (by rw [e]))⟩⟩
  exact row_splice hrow hl hgg
end Go.Proofs.Mem
namespace Go.Proofs.Yteggcehjpfmikaa.Strip
open Go.ChangeShapes Go.WideShapes Go.ChangeAt Go.RowKit Go.IntWalk Go.Shelf Go.Proofs.Mem
set_option linter.unusedVariables false
def part7 (xs : List Int) (k : Nat) : List Int := (xs.drop (127 * k)).take 127
theorem part_len (xs : List Int) (k : Nat) : (part7 xs k).length = size_ xs.length k := by unfold part7 size_; rw [List.length_take, List.length_drop]
def sec7 (xs : List Int) (k : Nat) : List Int := part7 xs k ++ List.replicate (127 - size_ xs.length k) 0 ++ [(size_ xs.length k : Int)]
def lay7 (xs : List Int) : List (List Int) := (List.range (cnt xs.length)).map (sec7 xs)
theorem size_le (L k : Nat) : size_ L k ≤ 127 := Nat.min_le_left _ _
theorem sec_len (xs : List Int) (k : Nat) : (sec7 xs k).length = 128 := by
  have := size_le xs.length k
  simp only [sec7, List.length_append, part_len, List.length_replicate, List.length_cons, List.length_nil]; omega
theorem part_bytes {xs : List Int} (hx : Bytes xs) (k : Nat) : Bytes (part7 xs k) := fun x h => hx x (List.mem_of_mem_drop (List.mem_of_mem_take h))
theorem bytes_rep (n : Nat) : Bytes (List.replicate n 0) := fun x hx => by rw [List.eq_of_mem_replicate hx]; decide
theorem sec_bytes {xs : List Int} (hx : Bytes xs) (k : Nat) : Bytes (sec7 xs k) := by
  have := size_le xs.length k
  exact ((part_bytes hx k).app (bytes_rep _)).app (Bytes.one (by omega))
theorem lay_bytes {xs : List Int} (hx : Bytes xs) : ∀ ys ∈ lay7 xs, Bytes ys := fun ys h => by
  obtain ⟨k, _, rfl⟩ := List.mem_map.1 h
  exact sec_bytes hx k
theorem lay_len (xs : List Int) : (lay7 xs).length = cnt xs.length := by simp [lay7]
theorem sec_made (xs : List Int) (k : Nat) : (part7 xs k ++ (List.replicate 128 (0 : Int)).drop (part7 xs k).length).set 127 (size_ xs.length k : Int) = sec7 xs k := by
  have h := size_le xs.length k
  rw [part_len, List.drop_replicate, List.set_append_right _ _ (by rw [part_len]; omega), part_len]
  unfold sec7
  rw [List.append_assoc]
  congr 1
  apply List.ext_getElem?
  intro i
  rw [List.getElem?_set]
  by_cases e : 127 - size_ xs.length k = i
  · subst e
    rw [if_pos rfl, if_pos (by rw [List.length_replicate]; omega), List.getElem?_append_right (by rw [List.length_replicate]; omega)]
    simp
  · rw [if_neg e]
    by_cases hi : i < 127 - size_ xs.length k
    · rw [List.getElem?_append_left (by rw [List.length_replicate]; exact hi), List.getElem?_replicate, List.getElem?_replicate, if_pos hi, if_pos (by omega)]
    · rw [List.getElem?_append_right (by rw [List.length_replicate]; omega), List.getElem?_eq_none (by rw [List.length_replicate]; omega), List.getElem?_eq_none (by rw [List.length_replicate]; simp; omega)]
theorem upto_map (L : Nat) : ∀ k, 127 * k ≤ L + 126 → (upto L k).map (·.1) = List.range k
  | 0, _ => rfl
  | k + 1, h => by rw [upto_succ (by omega), List.map_append, upto_map L k (by omega), List.range_succ]; rfl
theorem upto_lay (xs : List Int) : (upto xs.length (cnt xs.length)).map (fun k => sec7 xs k.1) = lay7 xs := by
  unfold lay7
  rw [← upto_map xs.length (cnt xs.length) (by unfold cnt; omega), List.map_map]; rfl
def readS : List (List Int) → List Int
  | [] => []
  | b :: t => if b.length = 128 ∧ b.getD 127 0 ≤ 127 then b.take (b.getD 127 0).toNat ++ (if b.getD 127 0 < 127 then [] else readS t) else []
theorem read_bad {b : List Int} (t : List (List Int)) (h : ¬ (b.length = 128 ∧ b.getD 127 0 ≤ 127)) : readS (b :: t) = [] := by simp only [readS]; rw [if_neg h]
theorem read_last {b : List Int} (t : List (List Int)) (h : b.length = 128) (h2 : b.getD 127 0 < 127) : readS (b :: t) = b.take (b.getD 127 0).toNat := by simp only [readS]; rw [if_pos ⟨h, by omega⟩, if_pos h2, List.append_nil]
theorem read_more {b : List Int} (t : List (List Int)) (h : b.length = 128) (h2 : b.getD 127 0 = 127) : readS (b :: t) = b.take (b.getD 127 0).toNat ++ readS t := by simp only [readS]; rw [if_pos ⟨h, by omega⟩, if_neg (by omega)]
theorem drop_at {α : Type} {l : List α} {k : Nat} {x : α} (h : l[k]? = some x) : l.drop k = x :: l.drop (k + 1) := by
  obtain ⟨hk, rfl⟩ := List.getElem?_eq_some_iff.1 h
  exact (List.drop_eq_getElem_cons hk)
theorem sec_last (xs : List Int) (k : Nat) : (sec7 xs k).getD 127 0 = size_ xs.length k := by
  have := size_le xs.length k
  unfold sec7
  rw [List.getD_eq_getElem?_getD, List.getElem?_append_right (by rw [List.length_append, part_len, List.length_replicate]; omega), List.length_append, part_len, List.length_replicate]
  rw [show 127 - (size_ xs.length k + (127 - size_ xs.length k)) = 0 by omega]; rfl
theorem sec_take (xs : List Int) (k : Nat) : (sec7 xs k).take (size_ xs.length k) = part7 xs k := by
  unfold sec7
  rw [List.append_assoc, List.take_left' (part_len xs k)]
theorem drop_split {α : Type} (l : List α) (a b : Nat) (h : a ≤ b) : (l.take b).drop a ++ l.drop b = l.drop a := by
  rw [List.drop_take, show l.drop b = (l.drop a).drop (b - a) by rw [List.drop_drop]; congr 1; omega, List.take_append_drop]
theorem read_front (xs : List Int) (tail : List (List Int)) (n : Nat) (hn : n ≤ cnt xs.length) (ht : readS tail = []) :
    ∀ k, k ≤ n → readS (((List.range n).map (sec7 xs)).drop k ++ tail) = (xs.take (127 * n)).drop (127 * k) := by
  intro k hk
  induction hm : n - k generalizing k with
  | zero =>
    obtain rfl : k = n := by omega
    rw [List.drop_of_length_le (by simp), List.nil_append, ht, List.drop_of_length_le (by rw [List.length_take]; omega)]
  | succ m ih =>
    have hkn : k < n := by omega
    have e : ((List.range n).map (sec7 xs)).drop k = sec7 xs k :: ((List.range n).map (sec7 xs)).drop (k + 1) := drop_at (by simp [hkn])
    rw [e, List.cons_append]
    have hs := sec_last xs k
    have hz : size_ xs.length k = min 127 (xs.length - 127 * k) := rfl
    have hc : cnt xs.length = (xs.length + 126) / 127 := rfl
    have hp : part7 xs k = (xs.take (127 * (k + 1))).drop (127 * k) := by unfold part7; rw [Nat.mul_add, Nat.mul_one, List.drop_take, Nat.add_sub_cancel_left]
    by_cases h127 : size_ xs.length k = 127
    · rw [read_more _ (sec_len xs k) (by rw [hs, h127]; rfl), hs, Int.toNat_natCast, sec_take, ih (k + 1) (by omega) (by omega)]
      rw [hp]
      have : xs.take (127 * (k + 1)) = (xs.take (127 * n)).take (127 * (k + 1)) := by rw [List.take_take, Nat.min_eq_left (by omega)]
      rw [this, drop_split _ _ _ (by omega)]
    · rw [read_last _ (sec_len xs k) (by rw [hs]; omega), hs, Int.toNat_natCast, sec_take, hp, List.take_of_length_le (by omega), List.take_of_length_le (by omega)]
theorem read_lay (xs : List Int) (tail : List (List Int)) (ht : readS tail = []) : readS (lay7 xs ++ tail) = xs := by
  have := read_front xs tail (cnt xs.length) (Nat.le_refl _) ht 0 (Nat.zero_le _)
  rw [List.drop_zero, Nat.mul_zero, List.drop_zero, List.take_of_length_le (by unfold cnt; omega)] at this
  exact this
theorem read_bytes : ∀ (l : List (List Int)), (∀ b ∈ l, Bytes b) → Bytes (readS l)
  | [], _ => Bytes.nil
  | b :: t, h => by
    simp only [readS]
    split
    · refine Bytes.app (fun x hx => h b (List.mem_cons_self ..) x (List.mem_of_mem_take hx)) ?_
      split
      · exact Bytes.nil
      · exact read_bytes t (fun c hc => h c (List.mem_cons_of_mem _ hc))
    · exact Bytes.nil
end Go.Proofs.Yteggcehjpfmikaa.Strip
namespace Go.Proofs.Yteggcehjpfmikaa.Wal
open Go.RowKit Go.WideShapes Go.Proofs.Mem Go.Proofs.Yteggcehjpfmikaa.Disk
set_option linter.unusedVariables false
def z128 : List Int := List.replicate 128 0
theorem z128_len : z128.length = 128 := by simp [z128]
theorem z128_bytes : Bytes z128 := fun x hx => by unfold z128 at hx; have := (List.mem_replicate.1 hx).2; omega
def wrs (D : Dv) (a : Nat) : List (List Int) → Dv
  | [] => D
  | x :: t => wrs (D.wrA 0 a x) (a + 1) t
def clnF (D : Dv) (q : Bool) (a : Nat) : List (List Int) → Dv × Bool
  | [] => (D, q)
  | x :: t => if D.rd 0 a = x then clnF D q (a + 1) t else clnF (D.wrA 0 a x) true (a + 1) t
def clnD (D : Dv) (a : Nat) (l : List (List Int)) : Dv := if (clnF D false a l).2 = true then (clnF D false a l).1.synA 0 else (clnF D false a l).1
def hdD (D : Dv) (n : Nat) (b : List Int) : Dv := (D.wrA 0 n b).synA 0
def wantB (l : List Int) : List Int := if l = [] then z128 else l
section
variable {D : Dv}
theorem wrA_lens {i : Nat} {N : Int} {xs : List Int} (k : Nat) : ((D.wrA i N xs).f k).length = (D.f k).length := by
  unfold Dv.wrA
  split
  · unfold Dv.wr
    split
    · unfold Dv.upd Dv.cnt
      dsimp only
      split
      · rename_i e; subst e; simp
      · rfl
    · rfl
  · rfl
theorem synA_lens {i : Nat} (k : Nat) : ((D.synA i).f k).length = (D.f k).length := by
  unfold Dv.synA
  split
  · unfold Dv.syn
    split
    · unfold Dv.synTo Dv.cnt
      dsimp only
      split
      · rename_i e; subst e; simp
      · rfl
    · rfl
  · rfl
theorem wrs_lens : ∀ (l : List (List Int)) (D : Dv) (a k : Nat), ((wrs D a l).f k).length = (D.f k).length
  | [], D, a, k => rfl
  | x :: t, D, a, k => by rw [wrs, wrs_lens t, wrA_lens]
theorem clnF_lens : ∀ (l : List (List Int)) (D : Dv) (q : Bool) (a k : Nat), ((clnF D q a l).1.f k).length = (D.f k).length
  | [], D, q, a, k => rfl
  | x :: t, D, q, a, k => by
    rw [clnF]
    split
    · exact clnF_lens t D q _ k
    · rw [clnF_lens t, wrA_lens]
theorem clnD_lens (a : Nat) (l : List (List Int)) (k : Nat) : ((clnD D a l).f k).length = (D.f k).length := by
  unfold clnD
  split
  · rw [synA_lens, clnF_lens]
  · rw [clnF_lens]
theorem hdD_lens (n : Nat) (b : List Int) (k : Nat) : ((hdD D n b).f k).length = (D.f k).length := by
  unfold hdD; rw [synA_lens, wrA_lens]
theorem upd_few {i n : Nat} {s : Se} {m : Nat} (h : D.Few m) (hs : s.wait.length ≤ m) : (D.upd i n s).Few m := fun k hk t ht => by
  unfold Dv.upd at ht
  dsimp only at ht
  split at ht
  · rename_i e
    subst e
    rcases List.mem_or_eq_of_mem_set ht with h1 | rfl
    · exact h _ hk t h1
    · exact hs
  · exact h k hk t ht
theorem getD_few {i n : Nat} {m : Nat} (h : D.Few m) (hi : i < 2) : ((D.f i).getD n zSe).wait.length ≤ m := by
  rw [List.getD_eq_getElem?_getD]
  cases e : (D.f i)[n]? with
  | none => simp [zSe]
  | some s => exact h i hi s (List.mem_of_getElem? e)
theorem wrA_few' {m : Nat} (hm : D.Few m) (i : Nat) (N : Int) (xs : List Int) : (D.wrA i N xs).Few (m + 1) := by
  unfold Dv.wrA
  split
  · rename_i hh
    unfold Dv.wr
    split
    · refine upd_few (D := D.cnt) (fun k hk s hs => Nat.le_succ_of_le (hm k hk s hs)) ?_
      have := getD_few (n := N.toNat) hm hh.1.1
      unfold Se.wr
      simp only [List.length_append, List.length_cons, List.length_nil]
      omega
    · exact fun k hk s hs => Nat.le_succ_of_le (hm k hk s hs)
  · exact hm.more (Nat.le_succ _)
theorem synA_few' {m : Nat} (hm : D.Few m) (i : Nat) : (D.synA i).Few m := by
  unfold Dv.synA
  split
  · unfold Dv.syn
    split
    · intro k hk s hs
      unfold Dv.synTo at hs
      dsimp only at hs
      split at hs
      · rename_i e
        subst e
        rcases List.mem_append.1 hs with h1 | h1
        · obtain ⟨y, hy, rfl⟩ := List.mem_map.1 h1
          simp [Se.syn]
        · exact hm _ hk s (List.mem_of_mem_drop h1)
      · exact hm k hk s hs
    · exact hm
  · exact hm
theorem wrs_few : ∀ (l : List (List Int)) (D : Dv) (a m : Nat), D.Few m → (wrs D a l).Few (m + l.length)
  | [], D, a, m, h => h
  | x :: t, D, a, m, h => by
    have := wrs_few t _ (a + 1) (m + 1) (wrA_few' h 0 a x)
    rw [wrs]
    exact this.more (by simp; omega)
theorem clnF_few : ∀ (l : List (List Int)) (D : Dv) (q : Bool) (a m : Nat), D.Few m → (clnF D q a l).1.Few (m + l.length)
  | [], D, q, a, m, h => h
  | x :: t, D, q, a, m, h => by
    rw [clnF]
    split
    · exact (clnF_few t D q _ m h).more (by simp)
    · exact (clnF_few t _ true _ (m + 1) (wrA_few' h 0 a x)).more (by simp; omega)
theorem clnD_few (a : Nat) (l : List (List Int)) {m : Nat} (h : D.Few m) : (clnD D a l).Few (m + l.length) := by
  unfold clnD
  split
  · exact synA_few' (clnF_few l D false a m h) 0
  · exact clnF_few l D false a m h
theorem hdD_few (n : Nat) (b : List Int) {m : Nat} (h : D.Few m) : (hdD D n b).Few (m + 1) := synA_few' (wrA_few' h 0 n b) 0
theorem wrs_snoc : ∀ (l : List (List Int)) (D : Dv) (a : Nat) (x : List Int), wrs D a (l ++ [x]) = (wrs D a l).wrA 0 ((a + l.length : Nat) : Int) x
  | [], D, a, x => rfl
  | y :: t, D, a, x => by
    rw [List.cons_append, wrs, wrs, wrs_snoc t]
    congr 2
    simp; omega
end
end Go.Proofs.Yteggcehjpfmikaa.Wal
namespace Go.Proofs.Yteggcehjpfmikaa.Strip
open Go.ChangeShapes Go.WideShapes Go.ChangeAt Go.RowKit Go.IntWalk Go.Shelf Go.Proofs.Mem Blk
set_option linter.unusedVariables false
attribute [local go_sem] Oper.semAt_some
theorem u8_size : (Try.prog.info? 5).map (·.size) = some 1 := by kernel_rfl
theorem count_len (L : Nat) (hn : L ≤ 100000000) (w : World) : Calls Try.prog 57 #[.int .i64 L] w fun e w' => e = .returned (.int .i64 (cnt L)) ∧ w = w' := by
  have := count_any L (by omega) w
  rw [countS_nat] at this
  exact this.mono fun _ _ ⟨h1, h2⟩ => ⟨h1, h2.symm⟩
theorem row_made (w : World) (AC : Array Value) (n : Nat) (h : AC = madeCells (Value.int .u8 0).cells (n * 1)) (hn : n ≤ 1000000) :
    RowAt 5 (w.alloc (.cells AC 5)) w.heap.size w.heap.size (.slice (some ⟨w.heap.size, 0, none⟩) n n) (List.replicate n 0) := by
  refine ⟨⟨n, by simp⟩, by simp, .inr ⟨w.heap.size, n, AC, by simp, Nat.le_refl _, heap_alloc_new w _, by simp, by unfold maxLen; omega, by rw [h, size_madeCells], ?_⟩⟩
  rw [h, madeZero]; simp
theorem piece_ir {W : World} {B c L : Nat} {A : Option Addr} {xs : List Int} (h : IR W B .u8 (.slice A L c) xs) {b off : Nat} (hA : A = some ⟨b, off, none⟩) (k : Nat) (hk : 127 * k < L) : IR W B .u8 (piece b off c L k) (part7 xs k) := by
  subst hA
  obtain ⟨A, c', e, h2, h3, h4, h5⟩ := h
  injection e with e1 e2 e3
  subst e1 e2 e3
  refine ⟨_, _, by unfold piece; rw [part_len], by rw [part_len]; unfold size_; omega, by omega, (fun hh => by cases hh), fun i hi => ?_⟩
  rw [part_len] at hi
  unfold size_ at hi
  obtain ⟨b', off', e, hb, hc⟩ := h5 (127 * k + i) (by omega)
  injection e with e
  injection e with e1 e2
  subst e1 e2
  refine ⟨_, _, rfl, hb, ?_⟩
  rw [Nat.add_assoc, hc]
  congr 2
  unfold part7
  simp only [List.getD_eq_getElem?_getD, List.getElem?_take, List.getElem?_drop]
  rw [if_pos (by omega)]
theorem tab_else {Tu Ts : TypeId} {A : World} {base top : Nat} {v : Value} {l : List Rw} (h : Tab Tu Ts A base top v l) {p : Addr} (x : Value) (hv : ∀ g, v.ownBlock = some g → g ≠ p.block) (hl : ∀ q ∈ l, q.1 ≠ p.block) : Tab Tu Ts (A.setCell p x) base top v l := by
  have hg := grownBy_set A p x
  refine ⟨h.outer.kept hg ?_, fun q hq => ⟨(h.rows q hq).1.far hg (fun e => ?_), (h.rows q hq).2⟩, h.apart, h.vtop⟩
  · cases e : v.ownBlock with
    | none => exact .inl rfl
    | some k => exact .inr (fun e2 => by injection e2 with e2; exact hv k e e2)
  · injection e with e
    exact hl q hq e.symm
def LayI (g b3 D : Nat) (w : World) (xs : List Int) (pre : List (Pc xs.length)) (W : World) : Prop :=
  (∃ ls, Box W b3 #[.slice (some ⟨g, 0, none⟩) pre.length (cnt xs.length)] 76 ∧ Tab 5 48 W g W.heap.size (.slice (some ⟨g, 0, none⟩) pre.length (cnt xs.length)) ls ∧ ls.length = pre.length ∧ (∀ p ∈ ls, D ≤ p.1) ∧ ls.map (·.2.2) = pre.map (fun k => sec7 xs k.1) ∧ D ≤ W.heap.size) ∧ Fr (fun k => g ≤ k) w W
theorem layI_own (g b3 D : Nat) (w : World) (xs : List Int) (hD : g ≤ D) : OwnFrom D (LayI g b3 D w xs) :=
  OwnFrom.and (ownFrom_scz fun s A B h sc hz => by
    obtain ⟨ls, h1, h2, h3, h4, h5, h6⟩ := h
    exact ⟨ls, h1.sc sc, (h2.sc sc).more hz, h3, h4, h5, Nat.le_trans h6 hz⟩) (ownFrom_fr fun k hk => by omega)
theorem layI_open {g b3 D Bs : Nat} {w : World} {xs : List Int} (h1 : g < Bs) (h2 : Bs < D) (h3 : b3 ≠ Bs) (r : Loop) : Open_ Bs (fun pre W => LayI g b3 D w xs pre W ∧ Stand D r W) := by
  rintro s W u ⟨⟨⟨ls, q1, q2, q3, q4, q5, qz⟩, q6⟩, q7, q8⟩
  refine ⟨⟨⟨ls, q1.far h3 u, ?_, q3, q4, q5, by simpa [World.setCell] using qz⟩, q6.setCell (.inl (show g ≤ Bs by omega)) _⟩, ?_, ?_⟩
  · have := tab_else q2 (p := ⟨Bs, 0, none⟩) u (fun g' e => by simp [Value.ownBlock] at e; show g' ≠ Bs; omega) (fun q hq => by have := q4 q hq; show q.1 ≠ Bs; omega)
    exact this.more (by simp [World.setCell])
  · exact (Below.heap_setCell W _ _ _ (by show D + 1 ≠ Bs; omega)).trans q7
  · exact (Below.heap_setCell W _ _ _ (by show D ≠ Bs; omega)).trans q8
def LayP (w : World) (L : List (List Int)) (e : Ending) (w' : World) : Prop :=
  ∃ v ls, e = .returned v ∧ Tab 5 48 w' w.heap.size w'.heap.size v ls ∧ ls.map (·.2.2) = L ∧ Below w.heap.size w w'
set_option maxRecDepth 100000 in
set_option maxHeartbeats 8000000 in
theorem lay_any (w : World) (B : Nat) (v : Value) (xs : List Int) (hv : IR w B .u8 v xs) (hB : B ≤ w.heap.size) (hl : xs.length ≤ 100000) :
    Calls Try.prog 38 #[v] w (LayP w (lay7 xs)) := by
  obtain ⟨i0, hi0, hz0, hz1, hz2⟩ := info_parts u8_info
  obtain ⟨j0, hj0, hy0, hy1, hy2⟩ := info_parts row_info
  obtain ⟨A, c, rfl, hlc, hcm⟩ := hv.form
  unfold maxLen at hcm
  obtain ⟨b, off, hA⟩ : ∃ b off, 0 < xs.length → A = some ⟨b, off, none⟩ := by
    by_cases h : 0 < xs.length
    · obtain ⟨b, off, e, _⟩ := hv.index 0 h
      exact ⟨b, off, fun _ => e⟩
    · exact ⟨0, 0, fun h' => absurd h' h⟩
  have hcn : cnt xs.length ≤ 1000 := by unfold cnt; omega
  obtain ⟨AC, hAC0, hACs, hmk⟩ := made_run (P := Try.prog) Try.underlying48 hi0 hz0 hz1 128 128 (by decide) (by rw [hz2]; decide) (by decide)
  rw [show ((128 : Nat) : Int) = 128 from rfl] at hmk
  obtain ⟨AS, hAS0, hASs, hms⟩ := made_run (P := Try.prog) Try.underlying76 hj0 hy0 hy1 0 (cnt xs.length) (by omega) (by rw [hy2]; omega) (by omega)
  rw [show ((0 : Nat) : Int) = 0 from rfl] at hms
  have ROW0 := Lib.hid (fun W => row_made W AC 128 hAC0 (by decide))
  have OUT0 := Lib.hid (fun (W : World) => World.ownsRow_made (base := W.heap.size) (size := 1) (e := 48) W AS (cnt xs.length) (Nat.le_refl _) (by unfold maxLen; omega) hASs)
  have HV := Lib.hid hv
  have HA := Lib.hid hA
  have HL := Lib.hid hl
  have CN := Lib.hid (fun W => count_len xs.length (by omega) W)
  have HCN := Lib.hid hcn
  have HB := Lib.hid hB
  clear hv hA hAC0 hACs hAS0 hASs hl hcn hB
  refine (callsIn_wide (n := 3)).1 ?_
  refine callsIn_of_wp_marks Try.func38 rfl trivial ?_ rfl
  simp only [Try.ntmps38, List.size_toArray, List.length_cons, List.length_nil, Nat.reduceAdd, Nat.reduceSub, Array.replicate_succ, Array.replicate_zero, List.push_toArray, List.append_toArray, List.nil_append, List.cons_append]
  gi_wp2_with (first
    | (refine ⟨trivial, ?_⟩; gi_at_call 57; refine (callsIn_wide.2 (CN.out _)).mono ?_; rintro e w1 ⟨rfl, rfl⟩)
    | (refine ⟨trivial, ?_⟩; gi_at_call 58; refine (pieces_in Fence.wide _ trivial rfl _ _ _ _).mono ?_; rintro e w' ⟨rfl, rfl⟩))
  obtain ⟨w0, hw0⟩ : ∃ w0, ((w.alloc (.cells AS 48)).alloc (.cells #[.slice (some ⟨w.heap.size, 0, none⟩) 0 (cnt xs.length)] 76)).alloc (.cells #[.slice A xs.length c] 48) = w0 := ⟨_, rfl⟩
  have z3 : Box w0 (w.heap.size + 1) #[.slice (some ⟨w.heap.size, 0, none⟩) 0 (cnt xs.length)] 76 := by
    rw [← hw0]; have := (Box.new (w.alloc (.cells AS 48)) #[.slice (some ⟨w.heap.size, 0, none⟩) 0 (cnt xs.length)] 76).alloc (.cells #[.slice A xs.length c] 48); rwa [World.size_alloc] at this
  have z7 : Box w0 (w.heap.size + 1 + 1) #[.slice A xs.length c] 48 := by
    rw [← hw0]; have := Box.new ((w.alloc (.cells AS 48)).alloc (.cells #[.slice (some ⟨w.heap.size, 0, none⟩) 0 (cnt xs.length)] 76)) #[.slice A xs.length c] 48; rwa [World.size_alloc, World.size_alloc] at this
  have hs0 : w0.heap.size = w.heap.size + 1 + 1 + 1 := by rw [← hw0]; simp
  have hbw0 : Below w.heap.size w w0 := by rw [← hw0]; exact new_ (new_ (new_ (Below.refl _ _) _) _) _
  have out0 : w0.ownsRow w.heap.size 48 1 (.slice (some ⟨w.heap.size, 0, none⟩) 0 (cnt xs.length)) 0 [] := by
    rw [← hw0]; exact own_sc (OUT0.out w) (Sc.of_below (new_ (new_ (Below.refl _ _) _) _))
  rw [hw0]
  have Z3 := Lib.hid z3
  have HS0 := Lib.hid hs0
  have HBW0 := Lib.hid hbw0
  have OUT1 := Lib.hid out0
  have Z7 := Lib.hid z7
  clear hw0 hs0 hbw0 z3 out0
  refine wpIn_rangeFunc_on 4 rfl (by omega) (gf := 79) (lb := #[.pointer (some ⟨w.heap.size + 1 + 1, 0, none⟩)]) rfl trivial (enters_of Try.func79 (by kernel_rfl) rfl)
    (pieces_seq (w.heap.size + 1 + 1) (fun k => k = w.heap.size ∨ k = w.heap.size + 1 ∨ w0.heap.size ≤ k) A b off c xs.length HA.out (by have := HS0.out; omega) hlc (by omega) w0 z7) frK_t (frK_b (fun k hk => .inr (.inr hk))) (Below.refl _ _)
    (LayI w.heap.size (w.heap.size + 1) w0.heap.size w xs) (layI_own _ _ _ _ _ (by have := HS0.out; omega)) (layI_open (by omega) (by have := HS0.out; omega) (by omega))
    ⟨⟨[], Z3.out, ⟨OUT1.out, (fun p hp => by cases hp), List.Pairwise.nil, (fun g hg => by simp [Value.ownBlock] at hg; have := HS0.out; omega)⟩, rfl, (fun p hp => by cases hp), rfl, Nat.le_refl _⟩, Fr.of_below HBW0.out⟩
    ?assign ?body ?done
  case assign =>
    intro l x W K hK
    gi_wp2
    exact hK
  case body =>
    rintro l pre ⟨x, hx⟩ W ⟨⟨ls, hbx, htab, hlen, hrows, hls, hdw⟩, hfr⟩ hlt
    have hpl : pre.length < cnt xs.length := hlt
    have hz0' : w.heap.size + 1 + 1 + 1 ≤ W.heap.size ∧ w0.heap.size ≤ W.heap.size := by have := HS0.out; omega
    have piw := piece_ir (HV.out.keep (fun p hp => hfr.cell (by have := HB.out; omega) (by have := HB.out; show ¬ w.heap.size ≤ p.block; omega))) (HA.out (by omega)) x hx
    obtain ⟨n, hn⟩ : ∃ n, size_ xs.length x = n := ⟨_, rfl⟩
    have hn127 : n ≤ 127 := by rw [← hn]; exact size_le _ _
    obtain ⟨cp, hcp⟩ : ∃ cp, c - 127 * x = cp := ⟨_, rfl⟩
    have hpc : piece b off c xs.length x = .slice (some ⟨b, off + 127 * x, none⟩) n cp := by unfold piece; rw [hn, hcp]
    rw [hpc] at piw
    simp only [hpc]
    have HN := Lib.hid hn
    have PW := Lib.hid piw
    have PL := Lib.hid (show (part7 xs x).length = n by rw [part_len, hn])
    have BX := Lib.hid hbx
    have TAB := Lib.hid htab
    have LEN := Lib.hid hlen
    have ROWS := Lib.hid hrows
    have LS := Lib.hid hls
    have FR := Lib.hid hfr
    have HPL := Lib.hid hpl
    have Z := Lib.hid hz0'
    have SEC := Lib.hid (sec_made xs x)
    have R0 := Lib.hid (ROW0.out W)
    have B0 := Lib.hid (show Below W.heap.size W (W.alloc (.cells AC 5)) from new_ (Below.refl _ _) _)
    clear hlt hpl hz0' hdw piw hn hcp hpc hbx htab hlen hrows hls hfr
    obtain ⟨w3, hrun3, row3, hg3⟩ := copy_runs (P := Try.prog) 48 48 3 5 Try.underlying48 u8_size (xs := List.replicate 128 0) R0.out B ⟨b, off + 127 * x, none⟩ cp (part7 xs x) (by rw [PL.out]; exact PW.out.below (B0.out.mono (by have := HB.out; have := Z.out; omega))) (by rw [PL.out, List.length_replicate]; omega)
    rw [PL.out, List.length_replicate] at hrun3
    rw [List.length_replicate] at row3
    have HRUN := Lib.hid (show (Builtin.copy_ #[48, 48] 3 #[.slice (some ⟨W.heap.size, 0, none⟩) 128 128, .slice (some ⟨b, off + 127 * x, none⟩) n cp]).run Try.prog (W.alloc (.cells AC 5)) = .ok (.int .i64 n) w3 from hrun3)
    have hrun4 := HRUN.out
    have y3 := row_cell row3 127 (by simp [PL.out]; omega)
    have f3 := row_frozen row3 127
    obtain ⟨y, hy⟩ : ∃ y, (part7 xs x ++ (List.replicate 128 (0 : Int)).drop (part7 xs x).length).getD 127 0 = y := ⟨_, rfl⟩
    rw [hy] at y3
    have ROW3 := Lib.hid row3
    have B3 := Lib.hid (show Below W.heap.size W w3 from B0.out.trans ((Below.refl _ _).grown hg3 (by simp) (fun g e => by injection e with e; omega)))
    have KO3 := Lib.hid ((KeepsOthers.alloc W (.cells AC 5)).trans (keeps_grown R0.out.own hg3))
    have c3 : w3.cell? ⟨w.heap.size + 1, 0, none⟩ = some (.slice (some ⟨w.heap.size, 0, none⟩) pre.length (cnt xs.length)) := (BX.out.below B3.out (by have := Z.out; omega)).cell 0
    have hzW : w.heap.size + 1 < W.heap.size := by have := Z.out; omega
    clear hrun3 hy row3 hg3
    obtain ⟨W4, hW4⟩ : ∃ W4, w3.setCell ⟨W.heap.size, 127, none⟩ (.int .u8 n) = W4 := ⟨_, rfl⟩
    have z43 : W4.heap.size = w3.heap.size := by rw [← hW4]; simp [World.setCell]
    have B4 := Lib.hid (show Below W.heap.size W W4 by rw [← hW4]; exact B3.out.setCell (p := ⟨W.heap.size, 127, none⟩) (Nat.le_refl _) _)
    have ROW4 := Lib.hid (show RowAt 5 W4 W.heap.size W.heap.size (.slice (some ⟨W.heap.size, 0, none⟩) 128 128) (sec7 xs x) by rw [← hW4, ← SEC.out, HN.out]; exact ROW3.out.put 127 n)
    obtain ⟨W5, hW5⟩ : ∃ W5, W4.alloc (.cells #[.slice (some ⟨W.heap.size, 0, none⟩) 128 128] 48) = W5 := ⟨_, rfl⟩
    have z54 : W5.heap.size = w3.heap.size + 1 := by rw [← hW5]; simp [z43]
    have news : ∀ (j : Nat) (u : Value), [Value.slice (some ⟨W.heap.size, 0, none⟩) 128 128][j]? = some u → W5.cell? ((⟨w3.heap.size, 0, none⟩ : Addr).add j) = some u := by
      rw [← z43, ← hW5]; exact cell_one_new _ _ _
    have b45 : Below W4.heap.size W4 W5 := by rw [← hW5]; exact new_ (Below.refl _ _) _
    have B5 := Lib.hid (B4.out.trans (b45.mono B4.out.size))
    have ROW5 := Lib.hid (ROW4.out.sc (Sc.of_below b45))
    have T5 := Lib.hid (TAB.out.below B5.out)
    have OWN5 := Lib.hid (show W5.ownsRow w.heap.size 48 1 (.slice (some ⟨w.heap.size, 0, none⟩) pre.length (cnt xs.length)) pre.length (ls.map (·.2.1)) by have := T5.out.outer; rwa [LEN.out] at this)
    have BX5 := Lib.hid (BX.out.below B5.out (by have := Z.out; omega))
    have KO5 := Lib.hid (show KeepsOthers W W5 by
      rw [← hW5, ← hW4]; exact (KO3.out.trans (KeepsOthers.setCell w3 ⟨W.heap.size, 127, none⟩ (.int .u8 n))).trans (KeepsOthers.alloc _ _))
    have NEWS := Lib.hid news
    have Z5 := Lib.hid (show w3.heap.size < W5.heap.size ∧ W.heap.size < W5.heap.size by have := B3.out.size; have := ROW4.out.own.lt W.heap.size rfl; omega)
    have HW5 := Lib.hid (show (w3.setCell ⟨W.heap.size, 127, none⟩ (.int .u8 n)).alloc (.cells #[.slice (some ⟨W.heap.size, 0, none⟩) 128 128] 48) = W5 by rw [hW4, hW5])
    clear hW4 hW5 z43 z54 news b45
    gi_wp2_with (first
      | (gi_at_builtin; rw [HW5.out]; refine wpListIn_append_fits _ rfl _ _ _ rfl w.heap.size 48 j0 1 Try.underlying76 hj0 hy1 w.heap.size pre.length (cnt xs.length) (ls.map (·.2.1)) rfl OWN5.out ⟨w3.heap.size, 0, none⟩ 1 1 [_] rfl rfl NEWS.out (by simp [Value.oneCell']) HPL.out ?_
         intro w6 hown6 hg6
         have OWN6 := Lib.hid hown6
         have HG6 := Lib.hid hg6
         have BX6 := Lib.hid (BX5.out.grown hg6 (by simp))
         have x7 : w6.cell? ⟨w.heap.size + 1, 0, none⟩ = some (.slice (some ⟨w.heap.size, 0, none⟩) pre.length (cnt xs.length)) := BX6.out.cell 0
         have x8 : w6.frozen? ⟨w.heap.size + 1, 0, none⟩ = false := BX6.out.frozen 0
         clear hown6 hg6)
      | fail)
    have KO := (KO5.out.trans (keeps_grown OWN5.out HG6.out)).trans (KeepsOthers.setCell w6 ⟨w.heap.size + 1, 0, none⟩ (.slice (some ⟨w.heap.size, 0, none⟩) (pre.length + 1) (cnt xs.length)))
    have F1 : Fr (fun k => k = w.heap.size ∨ k = w.heap.size + 1 ∨ w0.heap.size ≤ k) W (w6.setCell ⟨w.heap.size + 1, 0, none⟩ (.slice (some ⟨w.heap.size, 0, none⟩) (pre.length + 1) (cnt xs.length))) :=
      ((Fr.of_below B5.out).grown HG6.out (fun g e => by injection e with e; exact .inl (.inl e.symm))).setCell (p := ⟨w.heap.size + 1, 0, none⟩) (.inl (.inr (.inl rfl))) _
    have hz6 : W5.heap.size ≤ w6.heap.size := HG6.out.size
    have e6 : (w6.setCell ⟨w.heap.size + 1, 0, none⟩ (.slice (some ⟨w.heap.size, 0, none⟩) (pre.length + 1) (cnt xs.length))).heap.size = w6.heap.size := by simp [World.setCell]
    refine ⟨KO, F1, ⟨ls ++ [(W.heap.size, .slice (some ⟨W.heap.size, 0, none⟩) 128 128, sec7 xs x)], ?_, ?_, ?_, ?_, ?_, ?_⟩, FR.out.trans (F1.mono (fun k hk h => by have := HS0.out; show w.heap.size ≤ k; omega))⟩
    · rw [List.length_append]; exact BX6.out.set_ 0 _
    · rw [List.length_append, e6]
      have T6 := Tab.push T5.out (by decide) (ROW5.out) (show w.heap.size ≤ W.heap.size by have := Z.out; omega) (show W.heap.size < w6.heap.size by have := Z5.out; omega) (by rw [LEN.out]; exact OWN6.out) HG6.out (by have := Z5.out; omega)
      exact tab_else T6 (p := ⟨w.heap.size + 1, 0, none⟩) _ (fun g e => by simp [Value.ownBlock] at e; show g ≠ w.heap.size + 1; omega) (fun q hq => by
        have := HS0.out; have := Z.out
        rcases List.mem_append.1 hq with hq | hq
        · have := ROWS.out q hq; show q.1 ≠ w.heap.size + 1; omega
        · rw [List.mem_singleton.1 hq]; show W.heap.size ≠ w.heap.size + 1; omega)
    · rw [List.length_append, List.length_append, LEN.out]; rfl
    · intro q hq
      rcases List.mem_append.1 hq with hq | hq
      · exact ROWS.out q hq
      · rw [List.mem_singleton.1 hq]; exact Z.out.2
    · rw [List.map_append, List.map_append, LS.out]; rfl
    · rw [e6]; have := Z5.out; have := Z.out; omega
  case done =>
    rintro D ys W hD rfl ⟨⟨ls, hbx, htab, hlen, hrows, hls, hdw⟩, hfr⟩ hK
    have c3 := hbx.cell 0
    have TB := Lib.hid (htab.sc (sc_put (.deferred none) hK rfl))
    have LS := Lib.hid (hls.trans (upto_lay xs))
    have BW := Lib.hid (hfr.to_below (fun k hk => hk) (Nat.le_refl _))
    clear hbx htab hlen hrows hls hfr hdw
    generalize (upto xs.length (cnt xs.length)).length = m at *
    gi_wp2
    refine ⟨by simp, .inl ⟨_, _, rfl, run_takeDeferred hK, ?_⟩⟩
    refine ⟨_, results_tmp rfl _ _ _, _, ls, rfl, ?_, ?_, ?_⟩
    · exact TB.out.more (by simp)
    · exact LS.out
    · exact BW.out.trans (belowK_b (w := w) (Nat.le_refl _) W D _ _ (by have := HS0.out; omega) hK rfl rfl)
end Go.Proofs.Yteggcehjpfmikaa.Strip
namespace Go.Proofs.Yteggcehjpfmikaa.Wal
open Go.ChangeShapes Go.WideShapes Go.ChangeAt Go.RowKit Go.IntWalk Go.Proofs.Mem Go.Proofs.Each Law Go.Proofs.Yteggcehjpfmikaa.Disk NumBytes
set_option linter.unusedVariables false
set_option linter.unusedSimpArgs false
theorem splice_end (A ys : List Int) (n o m : Nat) (ho : A.length = o) (hm : n = ys.length + m) :
    (A ++ List.replicate n (0 : Int)).take o ++ ys ++ (A ++ List.replicate n (0 : Int)).drop (o + ys.length) = A ++ (ys ++ List.replicate m 0) := by
  subst ho hm
  rw [List.take_left' rfl, ← List.drop_drop, List.drop_left' rfl, List.drop_replicate, Nat.add_sub_cancel_left, List.append_assoc]
@[reducible] def hdC (h : Hh) : Array Value := #[.int .u64 h.st, .int .u8 h.ar, .int .u64 h.ba, .int .u64 h.ch]
theorem copy_lay {w1 w3 : World} {base g : Nat} {xs ys : List Int} {u : Value} (R : RowAt 5 w1 base g (.slice (some ⟨g, 0, none⟩) 128 128) xs) (hx : xs.length = 128) (hb : Below w1.heap.size w1 w3)
    (ho : w3.ownsRow w1.heap.size 5 1 u 8 (ys.map (.int .u8))) (oT : TypeId) (o dL dC : Nat) (hd : 8 ≤ dL) (hol : o + 8 ≤ 128) :
    ∃ ad c w4, u = .slice (some ad) 8 c ∧ (Builtin.copy_ #[48, 48] oT #[.slice (some ⟨g, o, none⟩) dL dC, .slice (some ad) 8 c]).run Try.prog w3 = .ok (goInt 8) w4 ∧ RowAt 5 w4 base g (.slice (some ⟨g, 0, none⟩) 128 128) (xs.take o ++ ys ++ xs.drop (o + 8)) ∧ w3.grownBy w4 (some g) := by
  have hy : ys.length = 8 := by have := ho.1; simpa using this
  have hi := IR.of_own ho
  obtain ⟨A, c, rfl, h1, h2⟩ := hi.form
  rw [hy] at hi h1 ⊢
  obtain ⟨b, off, rfl, _, _⟩ := hi.index 0 (by omega)
  have R3 := (R.sc (Sc.of_below hb))
  have hi' : IR w3 w3.heap.size .u8 (.slice (some ⟨b, off, none⟩) ys.length c) ys := by rw [hy]; exact hi
  have R3' : RowAt 5 w3 base g (.slice (some ⟨g, 0, none⟩) xs.length 128) xs := by rw [hx]; exact R3
  obtain ⟨w4, r1, r2, r3⟩ := Cpy.copy_runs_at (P := Try.prog) 48 48 oT 5 Try.underlying48 (by kernel_rfl) R3' o dL dC _ ⟨b, off, none⟩ c ys hi' (by omega) (by omega)
  rw [hy, hx] at r2
  rw [hy] at r1
  exact ⟨_, c, w4, rfl, r1, r2, r3⟩
def ImS (w1 : World) (z : Nat) (xs : List Int) (W : World) : Prop := xs.length = 128 ∧ RowAt 5 W (z + 1) (z + 1) (.slice (some ⟨z + 1, 0, none⟩) 128 128) xs ∧ Fr (fun x => x = z + 1) w1 W
theorem ImS.drew {w1 W : World} {z : Nat} {xs : List Int} (h : ImS w1 z xs W) : ImS w1 z xs W.drew := ⟨h.1, h.2.1.sc (Sc.of_below (Below.refl _ _).drew), h.2.2.drew⟩
theorem ImS.copy {w1 W w3 : World} {z : Nat} {xs ys xs' : List Int} {u : Value} (h : ImS w1 z xs W) (hz : z + 1 < w1.heap.size) (hb : Below W.heap.size W w3) (ho : w3.ownsRow W.heap.size 5 1 u 8 (ys.map (.int .u8))) (oT : TypeId) (o dL dC : Nat) (hd : 8 ≤ dL) (hol : o + 8 ≤ 128) (hx : xs.take o ++ ys ++ xs.drop (o + 8) = xs') :
    ∃ ad c w4, u = .slice (some ad) 8 c ∧ (Builtin.copy_ #[48, 48] oT #[.slice (some ⟨z + 1, o, none⟩) dL dC, .slice (some ad) 8 c]).run Try.prog w3 = .ok (goInt 8) w4 ∧ ImS w1 z xs' w4 := by
  obtain ⟨h1, h2, h3⟩ := h
  obtain ⟨ad, c, w4, e, hr, r4, g4⟩ := copy_lay h2 h1 hb ho oT o dL dC hd hol
  have hy : ys.length = 8 := by have := ho.1; simpa using this
  rw [hx] at r4
  refine ⟨ad, c, w4, e, hr, by rw [← hx]; simp only [List.length_append, List.length_take, List.length_drop]; omega, r4, ?_⟩
  exact Fr.grown (h3.below hb) g4 (fun q e => .inl (Option.some.inj e).symm)
theorem ImS.put {w1 W : World} {z : Nat} {xs : List Int} (h : ImS w1 z xs W) (j : Nat) (x : Int) : ImS w1 z (xs.set j x) (W.setCell ⟨z + 1, j, none⟩ (.int .u8 x)) :=
  ⟨by rw [List.length_set]; exact h.1, h.2.1.put j x, h.2.2.setCell (.inl rfl) _⟩
set_option maxRecDepth 100000 in
set_option maxHeartbeats 8000000 in
theorem image_any (h : Hh) (ok : h.Ok) (w : World) :
    Calls Try.prog 74 #[.agg (hdC h)] w fun e w' => ∃ u, e = .returned u ∧ w'.ownsRow w.heap.size 5 1 u 128 (h.img.map (.int .u8)) ∧ Below w.heap.size w w' := by
  obtain ⟨i0, hi0, hz0, hz1, hz2⟩ := info_parts NumBytes.u8_info
  obtain ⟨AC, hAC, hACs, hACr⟩ := made_run (P := Try.prog) (t := 48) (e := 5) (z := .int .u8 0) Try.underlying48 hi0 hz0 hz1 128 128 (Nat.le_refl _) (by rw [hz2]; omega) (by omega)
  have hACr' : ∀ W : World, (Instr.makeSlice 48 (.int .i64 128) (.int .i64 128)).run Try.prog W = .ok (.slice (some ⟨W.heap.size, 0, none⟩) 128 128) (W.alloc (.cells AC 5)) := hACr
  clear hACr
  obtain ⟨z, hz⟩ : ∃ z, w.heap.size = z := ⟨_, rfl⟩
  have BX := Box.new w (hdC h) 84
  have bb := new_ (Below.refl w.heap.size w) (.cells (hdC h) 84)
  have s1 : (w.alloc (.cells (hdC h) 84)).heap.size = z + 1 := by rw [← hz]; simp
  rw [hz] at BX bb ⊢
  obtain ⟨w0, hw0⟩ : ∃ w0, w.alloc (.cells (hdC h) 84) = w0 := ⟨_, rfl⟩
  rw [hw0] at BX bb s1
  have RW := Strip.row_made w0 AC 128 hAC (by decide)
  have b1 := new_ (Below.refl w0.heap.size w0) (.cells AC 5)
  obtain ⟨w1, hw1⟩ : ∃ w1, w0.alloc (.cells AC 5) = w1 := ⟨_, rfl⟩
  rw [hw1] at RW b1
  rw [s1] at RW b1
  have hM := hACr' w0
  rw [s1, hw1] at hM
  clear hACr'
  have b01 := bb.trans (b1.mono (by omega))
  have BX1 := BX.later (by rw [s1]; exact b1)
  obtain ⟨cap, rcap⟩ : ∃ cap, cap = 128 := ⟨_, rfl⟩
  have hs1 : w1.heap.size = z + 2 := by rw [← hw1]; simp; omega
  obtain ⟨st, ar, ba, ch⟩ := h
  obtain ⟨k1, k2, k3, k4⟩ := id ok
  dsimp only at k1 k2 k3 k4
  have SK := Lib.hid (show ∀ W : World, Fr (fun x => x = z + 1) w1 W → (W.cell? ⟨z, 0, none⟩ = some (.int .u64 st) ∧ W.cell? ⟨z, 1, none⟩ = some (.int .u8 ar) ∧ W.cell? ⟨z, 2, none⟩ = some (.int .u64 ba) ∧ W.cell? ⟨z, 3, none⟩ = some (.int .u64 ch)) from fun W hW => by
    have X := BX1.fr hW (fun e => by have : z = z + 1 := e; omega)
    exact ⟨X.cell 0, X.cell 1, X.cell 2, X.cell 3⟩)
  have PA := fun (n : Int) (h0 : 0 ≤ n) (h1 : n ≤ 18446744073709551615) W => Lib.hid (by have h := put_any n 8 h0 h1 (by decide) (by decide) W; rw [show (8 : Int).toNat = 8 from rfl] at h; exact h)
  have P1 := PA st k1.1 k1.2
  have P2 := PA ba k3.1 k3.2
  have P3 := PA ch k4.1 k4.2
  have R1 := Lib.hid (show ImS w1 z (List.replicate 128 0) w1 from ⟨by simp, RW, Fr.refl _ _⟩)
  have HB := Lib.hid b01
  have HZ := Lib.hid hz
  have HS := Lib.hid (show z + 1 < w1.heap.size by omega)
  have HE := Lib.hid (fun W (hI : ImS w1 z (Hh.img ⟨st, ar, ba, ch⟩) W) => (⟨_, rfl, by have := hI.2.1.own; rw [hI.1] at this; exact own_lower this (by omega), b01.trans (hI.2.2.to_below (B := z) (fun k (hk : k = z + 1) => by omega) (by omega))⟩ : ∃ u, Ending.returned (.slice (some ⟨z + 1, 0, none⟩) 128 128) = .returned u ∧ W.ownsRow z 5 1 u 128 ((Hh.img ⟨st, ar, ba, ch⟩).map (.int .u8)) ∧ Below z w W))
  have E1 := Lib.hid (show (List.replicate 128 (0 : Int)).take 0 ++ putS st 8 ++ (List.replicate 128 (0 : Int)).drop (0 + 8) = putS st 8 ++ List.replicate 120 0 from by simp)
  have E2 := Lib.hid (show (putS st 8 ++ List.replicate 120 (0 : Int)).set 8 ar = putS st 8 ++ ([ar] ++ List.replicate 119 0) from by
    rw [List.set_append_right _ _ (by rw [putS_len]; exact Nat.le_refl _), putS_len]; rfl)
  have E3 := Lib.hid (show (putS st 8 ++ ([ar] ++ List.replicate 119 (0 : Int))).take 9 ++ putS ba 8 ++ (putS st 8 ++ ([ar] ++ List.replicate 119 0)).drop (9 + 8) = putS st 8 ++ ([ar] ++ (putS ba 8 ++ List.replicate 111 0)) from by
    have := splice_end (putS st 8 ++ [ar]) (putS ba 8) 119 9 111 (by simp [putS_len]) (by simp [putS_len])
    rw [putS_len] at this
    simpa only [List.append_assoc] using this)
  have E4 := Lib.hid (show (putS st 8 ++ ([ar] ++ (putS ba 8 ++ List.replicate 111 (0 : Int)))).take 17 ++ putS ch 8 ++ (putS st 8 ++ ([ar] ++ (putS ba 8 ++ List.replicate 111 (0 : Int)))).drop (17 + 8) = putS st 8 ++ ([ar] ++ (putS ba 8 ++ (putS ch 8 ++ List.replicate 103 0))) from by
    have := splice_end (putS st 8 ++ [ar] ++ putS ba 8) (putS ch 8) 111 17 103 (by simp [putS_len]) (by simp [putS_len])
    rw [putS_len] at this
    simpa only [List.append_assoc] using this)
  have E5 := Lib.hid (show (putS st 8 ++ ([ar] ++ (putS ba 8 ++ (putS ch 8 ++ List.replicate 103 (0 : Int))))).take 120 ++ putS st 8 ++ (putS st 8 ++ ([ar] ++ (putS ba 8 ++ (putS ch 8 ++ List.replicate 103 (0 : Int))))).drop (120 + 8) = Hh.img ⟨st, ar, ba, ch⟩ from by
    have := splice_end (putS st 8 ++ [ar] ++ putS ba 8 ++ putS ch 8 ++ List.replicate 95 0) (putS st 8) 8 120 0 (by simp [putS_len]) (by simp [putS_len])
    rw [putS_len] at this
    simpa only [List.append_assoc, List.replicate_append_replicate, List.replicate_zero, List.append_nil, Hh.img] using this)
  obtain ⟨c0, c1, c2, c3⟩ := SK.out w1 (Fr.refl _ _)
  clear PA k1 k2 k3 k4 RW b01 b1 bb BX BX1 hs1 s1 ok
  go_enter Try.func74, Try.ntmps74
  go_wp2_with fail
  (with_reducible refine (P1 _).out.mono ?_)
  rintro er w3 ⟨u, rfl, ho, hb⟩
  obtain ⟨ad, c3, w4, rfl, hrun, I4⟩ := R1.out.copy HS.out hb ho 3 0 128 128 (by decide) (by decide) E1.out
  have J4 := Lib.hid I4
  have m8 := row_cell I4.2.1 8 (by rw [I4.1]; decide)
  have n8 := row_frozen I4.2.1 8
  have n1 := (SK.out w4 I4.2.2).2.1
  clear hb ho I4
  go_wp2_with fail
  have I5 := J4.out.put 8 ar
  rw [E2.out] at I5
  obtain ⟨w5, hw5⟩ : ∃ w5, w4.setCell ⟨z + 1, 8, none⟩ (.int .u8 ar) = w5 := ⟨_, rfl⟩
  rw [hw5] at I5
  have J5 := Lib.hid I5.drew
  rw [hw5]
  clear hrun m8 n8 n1 hw5 I5
  have K5 := Lib.hid (SK.out _ J5.out.2.2)
  go_region_held3 (fun W => W.cell? ⟨z, 0, none⟩ = some (.int .u64 st) ∧ W.cell? ⟨z, 1, none⟩ = some (.int .u8 ar) ∧ W.cell? ⟨z, 2, none⟩ = some (.int .u64 ba) ∧ W.cell? ⟨z, 3, none⟩ = some (.int .u64 ch))
    (first | exact K5.out | exact K6a.out | exact K6b.out | (go_split_ands; first | exact K5.out | exact K6a.out | exact K6b.out))
    (first
    | (go_at_call 70
       (with_reducible refine (P2 _).out.mono ?_)
       rintro er w3 ⟨u, rfl, ho, hb⟩
       obtain ⟨ad, c3, w6, rfl, hrun, I6⟩ := J5.out.copy HS.out hb ho 3 9 119 119 (by decide) (by decide) E3.out
       have J6 := Lib.hid I6.drew
       have K6a := Lib.hid (SK.out w3 (J5.out.2.2.below hb))
       have K6b := Lib.hid (SK.out w6 I6.2.2)
       clear hb ho I6))
  go_wp2_with fail
  clear hrun K5 K6a K6b
  have K5 := Lib.hid (SK.out _ J6.out.2.2)
  go_region_held3 (fun W => W.cell? ⟨z, 0, none⟩ = some (.int .u64 st) ∧ W.cell? ⟨z, 1, none⟩ = some (.int .u8 ar) ∧ W.cell? ⟨z, 2, none⟩ = some (.int .u64 ba) ∧ W.cell? ⟨z, 3, none⟩ = some (.int .u64 ch))
    (first | exact K5.out | exact K7a.out | exact K7b.out | (go_split_ands; first | exact K5.out | exact K7a.out | exact K7b.out))
    (first
    | (go_at_call 70
       (with_reducible refine (P3 _).out.mono ?_)
       rintro er w3 ⟨u, rfl, ho, hb⟩
       obtain ⟨ad, c3, w6, rfl, hrun, I6⟩ := J6.out.copy HS.out hb ho 3 17 111 111 (by decide) (by decide) E4.out
       have J7 := Lib.hid I6.drew
       have K7a := Lib.hid (SK.out w3 (J6.out.2.2.below hb))
       have K7b := Lib.hid (SK.out w6 I6.2.2)
       clear hb ho I6))
  go_wp2_with fail
  clear hrun K5 K7a K7b
  have K5 := Lib.hid (SK.out _ J7.out.2.2)
  go_region_held3 (fun W => W.cell? ⟨z, 0, none⟩ = some (.int .u64 st) ∧ W.cell? ⟨z, 1, none⟩ = some (.int .u8 ar) ∧ W.cell? ⟨z, 2, none⟩ = some (.int .u64 ba) ∧ W.cell? ⟨z, 3, none⟩ = some (.int .u64 ch))
    (first | exact K5.out | exact K8a.out | exact K8b.out | (go_split_ands; first | exact K5.out | exact K8a.out | exact K8b.out))
    (first
    | (go_at_call 70
       (with_reducible refine (P1 _).out.mono ?_)
       rintro er w3 ⟨u, rfl, ho, hb⟩
       obtain ⟨ad, c3, w6, rfl, hrun, I6⟩ := J7.out.copy HS.out hb ho 3 120 8 8 (by decide) (by decide) E5.out
       have J8 := Lib.hid I6
       have K8a := Lib.hid (SK.out w3 (J7.out.2.2.below hb))
       have K8b := Lib.hid (SK.out w6 I6.2.2)
       clear hb ho I6))
  have HE8 := Lib.hid (HE.out _ J8.out)
  clear hrun
  go_wp2
  go_ret
  exact HE8.out
end Go.Proofs.Yteggcehjpfmikaa.Wal
namespace Go.Proofs.Yteggcehjpfmikaa.Wal
open Go.ChangeShapes Go.WideShapes Go.ChangeAt Go.RowKit Go.IntWalk Go.Proofs.Mem Go.Proofs.Each Law Go.Proofs.Yteggcehjpfmikaa.Disk
set_option linter.unusedVariables false
set_option linter.unusedSimpArgs false
def DX (w : World) (S : Nat → Prop) (g : Nat) (fv : Nat → Value) (D : Dv) : Prop := ∃ col uv, DA w S g D col fv uv
structure Mv (w : World) (S : Nat → Prop) (w' : World) (S' : Nat → Prop) : Prop where
  fr : Fr S w w'
  new : ∀ x, S' x → S x ∨ w.heap.size ≤ x
section
variable {w w1 w' : World} {S S1 S' : Nat → Prop} {g : Nat} {fv : Nat → Value} {D : Dv}
theorem Mv.refl (w : World) (S : Nat → Prop) : Mv w S w S := ⟨Fr.refl _ _, fun x hx => .inl hx⟩
theorem Mv.trans (h : Mv w S w1 S1) (k : Mv w1 S1 w' S') : Mv w S w' S' :=
  ⟨h.fr.trans' k.fr (fun i hi hi2 => (h.new i hi2).resolve_right (by omega)), fun x hx => by
    rcases k.new x hx with h1 | h1
    · exact h.new x h1
    · have := h.fr.size; exact .inr (by omega)⟩
theorem Mv.later (h : Mv w S w1 S1) (hb : Below w1.heap.size w1 w') : Mv w S w' S1 := ⟨h.fr.below hb, h.new⟩
theorem Mv.of_below (hb : Below w.heap.size w w') (S : Nat → Prop) : Mv w S w' S := (Mv.refl w S).later hb
theorem DX.later (h : DX w S g fv D) (hb : Below w.heap.size w w') : DX w' S g fv D := by
  obtain ⟨col, uv, h⟩ := h
  exact ⟨col, uv, h.later hb⟩
theorem DX.far {T : Nat → Prop} (h : DX w S g fv D) (hf : Fr T w w') (ht : ∀ x, S x → ¬ T x) : DX w' S g fv D := by
  obtain ⟨col, uv, h⟩ := h
  exact ⟨col, uv, h.far hf ht⟩
theorem DX.old (h : DX w S g fv D) : ∀ x, S x → x < w.heap.size := by
  obtain ⟨col, uv, h⟩ := h
  exact h.old
theorem DX.lens (h : DX w S g fv D) (k : Nat) (hk : k < 2) : (D.f k).length ≤ 4096 := by
  obtain ⟨col, uv, h⟩ := h
  exact h.most k hk
theorem ds_read (h : DX w S g fv D) (hw : D.Few 100000) (N : Int) :
    Calls Try.prog 53 #[.pointer (some ⟨g, 0, none⟩), .int .u8 0, .int .i64 N] w fun e w' => ∃ u, e = .returned (.tuple #[u, .int .u16 (D.rdE 0 N)]) ∧ IR w' w'.heap.size .u8 u (D.rd 0 N) ∧ Bytes (D.rd 0 N) ∧ Below w.heap.size w w' := by
  obtain ⟨col, uv, h⟩ := h
  exact read_any h hw 0 N 0 rfl (by decide)
theorem mv_grow (h : Fr S w w') : Mv w S w' (growS w w' S) := ⟨h, fun x hx => by rcases hx with hx | hx; (exact .inl hx); (exact .inr hx.1)⟩
theorem ds_write (h : DX w S g fv D) (hw : D.Few 100000) (N : Int) (dv : Value) (xs : List Int) (hdf : ∀ w', Fr S w w' → IR w' w'.heap.size .u8 dv xs) (hxb : Bytes xs) (hxl : xs.length = 128) (hN : D.has 0 N) :
    Calls Try.prog 60 #[.pointer (some ⟨g, 0, none⟩), .int .u8 0, .int .i64 N, dv] w fun e w' => e = .returned (.int .u16 0) ∧ ∃ S', DX w' S' g fv (D.wrA 0 N xs) ∧ Mv w S w' S' := by
  obtain ⟨col, uv, h⟩ := h
  refine (write_any h 0 N 0 rfl (by decide) hw dv xs hdf hxb).mono ?_
  rintro e w' ⟨rfl, h5, h6⟩
  exact ⟨by unfold Dv.wrE; rw [if_pos hN, if_pos hxl], _, h5, mv_grow h6⟩
theorem ds_sync (h : DX w S g fv D) (hw : D.Few 100000) :
    Calls Try.prog 61 #[.pointer (some ⟨g, 0, none⟩), .int .u8 0] w fun e w' => e = .returned (.tuple #[]) ∧ ∃ S', DX w' S' g fv (D.synA 0) ∧ Mv w S w' S' := by
  obtain ⟨col, uv, h⟩ := h
  refine (sync_any h 0 0 rfl (by decide) hw).mono ?_
  rintro e w' ⟨rfl, h5, h6⟩
  exact ⟨rfl, _, h5, mv_grow h6⟩
end
theorem beq_any (a b : Value) (xs ys : List Int) (w : World) (B B' : Nat) (ha : IR w B .u8 a xs) (hb : IR w B' .u8 b ys) (hx : Bytes xs) (hy : Bytes ys) :
    Calls Try.prog 59 #[a, b] w fun e w' => e = .returned (.bool (decide (xs = ys))) ∧ w = w' := by
  have h1 := ha.text (P := Try.prog) (dst := 9) Try.underlying48 Try.underlying5 Try.underlying9
  have h2 := hb.text (P := Try.prog) (dst := 9) Try.underlying48 Try.underlying5 Try.underlying9
  go_enter Try.func59, Try.ntmps59
  go_wp2
  go_ret
  exact ⟨by rw [← str_eq hx hy]; rfl, rfl⟩
end Go.Proofs.Yteggcehjpfmikaa.Wal
namespace Go.Proofs.Mem
open Go.RowKit Go.WideShapes
set_option linter.unusedVariables false
structure RowTo (w w' : World) (v v' : Value) : Prop where
  fr : Fr (fun x => v.ownBlock = some x) w w'
  own : v'.ownBlock = v.ownBlock ∨ ∃ k, v'.ownBlock = some k ∧ w.heap.size ≤ k
section
variable {a b c : World} {u v x : Value}
theorem RowTo.refl (a : World) (u : Value) : RowTo a a u u := ⟨Fr.refl _ _, .inl rfl⟩
theorem RowTo.trans (h : RowTo a b u v) (k : RowTo b c v x) : RowTo a c u x := by
  refine ⟨h.fr.trans' k.fr (fun i hi hs => ?_), ?_⟩
  · rcases h.own with e | ⟨m, e, hm⟩
    · exact e ▸ hs
    · rw [e] at hs; injection hs with hs; omega
  · rcases k.own with e | ⟨m, e, hm⟩
    · rcases h.own with e' | ⟨m, e', hm⟩
      · exact .inl (e.trans e')
      · exact .inr ⟨m, e.trans e', hm⟩
    · exact .inr ⟨m, e, Nat.le_trans h.fr.size hm⟩
theorem RowTo.of_below (hb : Below a.heap.size a b) (u : Value) : RowTo a b u u := ⟨Fr.of_below hb, .inl rfl⟩
theorem RowTo.later (h : RowTo a b u v) (hb : Below b.heap.size b c) : RowTo a c u v := h.trans (.of_below hb v)
theorem RowTo.made {n size : Nat} {e : TypeId} {xs : List Value} (hb : Below a.heap.size a b) (ho : b.ownsRow a.heap.size e size v n xs) : RowTo a b (.slice none 0 0) v := by
  refine ⟨Fr.of_below hb, ?_⟩
  cases h : v.ownBlock with
  | none => exact .inl rfl
  | some k => exact .inr ⟨k, rfl, (ho.lt k h).1⟩
theorem RowTo.app (hg : a.grownBy b u.ownBlock) (ho : v.ownBlock = u.ownBlock ∨ v.ownBlock = some a.heap.size) : RowTo a b u v :=
  ⟨(Fr.refl _ _).grown hg (fun k e => .inl e), ho.imp id (fun e => ⟨_, e, Nat.le_refl _⟩)⟩
theorem RowTo.box {m : Nat} {C : Array Value} {t : TypeId} (h : RowTo a b u v) (hb : Box a m C t) (hu : u.ownBlock ≠ some m) : Box b m C t := hb.fr h.fr hu
theorem RowTo.below {B : Nat} (h : RowTo a b u v) (hu : ∀ k, u.ownBlock = some k → B ≤ k) (hB : B ≤ a.heap.size) : Below B a b := h.fr.to_below hu hB
theorem RowTo.all (h : RowTo a b (.slice none 0 0) v) : Below a.heap.size a b := h.below (fun k e => by cases e) (Nat.le_refl _)
theorem RowTo.far {m : Nat} (h : RowTo a b u v) (hm : m < a.heap.size) (hu : u.ownBlock ≠ some m) : v.ownBlock ≠ some m := fun e => by
  rcases h.own with e' | ⟨k, e', hk⟩
  · exact hu (e'.symm.trans e)
  · rw [e'] at e; injection e with e; omega
end
end Go.Proofs.Mem
namespace Go.Proofs.Yteggcehjpfmikaa.Strip
open Go.ChangeShapes Go.WideShapes Go.ChangeAt Go.RowKit Go.IntWalk Go.Shelf Go.Proofs.Mem Blk
set_option linter.unusedVariables false
def fill (xs : List Int) (k j : Nat) : List Int := (part7 xs k).take j ++ List.replicate (128 - j) 0
def SecP (w : World) (zs : List Int) (e : Ending) (w' : World) : Prop := e = .returned (.slice (some ⟨w.heap.size, 0, none⟩) 128 128) ∧ RowAt 5 w' w.heap.size w.heap.size (.slice (some ⟨w.heap.size, 0, none⟩) 128 128) zs ∧ Below w.heap.size w w'
end Go.Proofs.Yteggcehjpfmikaa.Strip
