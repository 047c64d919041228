import Derived.Test.YtpndcpmfcajmdaaLk5
/- slices.Insert of one place into a line. -/
namespace Go.Proofs.Ytpndcpmfcajmdaa.Lock
open Go.ChangeShapes Go.WideShapes Go.ChangeAt Go.RowKit Go.IntWalk Go.Proofs.Mem Law
set_option linter.unusedVariables false
set_option linter.unusedSimpArgs false
/-- what Insert leaves -/
def Ins (w : World) (base : Nat) (lv : Value) (l : List Pl) (w' : World) (e : Ending) : Prop := ∃ lv', e = .returned lv' ∧ LnAt w' base lv' l ∧ RowTo w w' lv lv'
theorem sub_one (w : World) (vb : Nat) (p : Pl) (hv : Box w vb (cPl p).toArray 72) (j : Nat) (u : Value) (h : (cPl p)[j]? = some u) : w.cell? ((⟨vb, 0, none⟩ : Addr).add j) = some u := by
  rw [Go.WideShapes.add_plain, Nat.zero_add, hv.cell]; simpa using h
/-- a new row behind an append -/
theorem ins_new {w : World} {base : Nat} (lv : Value) {l : List Pl} {cap : Nat} {tail : List Value} (hb : base ≤ w.heap.size) (h4 : l.length ≤ cap) (h5 : cap ≤ maxLen) (h6 : cap * 2 ≤ l.length * 2 + tail.length) :
    LnAt (w.drew.alloc (.cells (Pls l ++ tail).toArray 72)) base (.slice (some ⟨w.heap.size, 0, none⟩) l.length cap) l ∧ RowTo w (w.drew.alloc (.cells (Pls l ++ tail).toArray 72)) lv (.slice (some ⟨w.heap.size, 0, none⟩) l.length cap) :=
  ⟨LnAt.made (Box.new w.drew _ _) hb rfl h4 h5 h6, ⟨(Fr.refl _ _).drew.alloc _, .inr ⟨_, rfl, Nat.le_refl _⟩⟩⟩
/-- the zero places behind -/
theorem zeros_len (n : Nat) : (Builtin.zeroCells (Value.agg #[.int .u32 0, .int .u8 0]).cells n).toList.length = n * 2 := by
  rw [Array.length_toList, size_zeroCells]; rfl
set_option maxRecDepth 100000 in
set_option maxHeartbeats 4000000 in
/-- into nothing -/
theorem insert_nil (w : World) (base vb : Nat) (p : Pl) (hbase : base ≤ w.heap.size) (hv : Box w vb (cPl p).toArray 72) :
    Calls Try.prog 53 #[.slice none 0 0, .int .i64 0, .slice (some ⟨vb, 0, none⟩) 1 1] w fun e w' => Ins w base (.slice none 0 0) [p] w' e := by
  obtain ⟨i, hi, hz, hs, hby⟩ := pl_parts
  have hrun : ∀ ty, (Builtin.append_ #[84, 84] ty #[.slice none 0 0, .slice (some ⟨vb, 0, none⟩) 1 1]).run Try.prog w = _ := fun ty =>
    run_append_nil (P := Try.prog) w 84 ty 72 i _ Try.underlying84 hi hz ⟨vb, 0, none⟩ 1 1 (cPl p) (by rw [hs]; rfl) (sub_one w vb p hv) (by omega) (by omega) (by rw [hby]; omega)
  have hge := grownCap_ge w 1 0 72
  have hcm := grownCap_le_maxLen w 1 0 72 (by unfold maxLen; omega)
  generalize grownCap w 1 0 72 = cap at hrun hge hcm
  have hN := ins_new (base := base) (.slice none 0 0) (l := [p]) (cap := cap) (tail := (Builtin.zeroCells (Value.agg #[.int .u32 0, .int .u8 0]).cells (cap - 1)).toList) hbase hge hcm (by rw [zeros_len]; simp; omega)
  have he : ((cPl p).toArray ++ Builtin.zeroCells (Value.agg #[.int .u32 0, .int .u8 0]).cells (cap - 1)) = (Pls [p] ++ (Builtin.zeroCells (Value.agg #[.int .u32 0, .int .u8 0]).cells (cap - 1)).toList).toArray := by
    apply Array.ext'; simp [Pls]
  rw [he] at hrun
  generalize (Pls [p] ++ (Builtin.zeroCells (Value.agg #[.int .u32 0, .int .u8 0]).cells (cap - 1)).toList).toArray = cs at hrun hN
  have HN := Lib.hid hN
  clear hN hge hcm he hv hi hz hs hby
  go_enter Try.func53, Try.ntmps53
  go_wp2_with (at_builtin; refine Lib.wpList_append_run _ rfl _ _ _ _ rfl _ _ rfl rfl _ _ (hrun _) ?_)
  go_ret
  exact ⟨_, rfl, HN.out.1, HN.out.2⟩
theorem run_append_roomK (w : World) (ty : TypeId) (g : Nat) (pre mid old post cs : List Value) (a : Addr) (sLen sCap c : Nat) (hb : RowB w g (pre ++ mid ++ old ++ post)) (hmid : mid.length = sLen * 2) (hold : old.length = cs.length) (hn : cs.length = 1 * 2)
    (hsrc : ∀ j v, cs[j]? = some v → w.cell? (a.add j) = some v) (h1 : ∀ v ∈ cs, v.oneCell' = true) (hroom : sLen + 1 ≤ sCap) :
    (Builtin.append_ #[84, 84] ty #[.slice (some ⟨g, pre.length, none⟩) sLen sCap, .slice (some a) 1 c]).run Try.prog w = .ok (.slice (some ⟨g, pre.length, none⟩) (sLen + 1) sCap) (w.setRow g (pre ++ mid ++ cs ++ post).toArray) := by
  obtain ⟨i, hi, _, hsz, _⟩ := pl_parts
  have hf := run_firstCells_some (P := Try.prog) w i.size 1 a 1 c cs (by rw [hsz]; exact hn) hsrc
  have hst := run_storeCells_at Try.prog g (pre ++ mid).length 72 cs 0 _ w hb (by simp; omega) h1
  have e := take_drop3 (pre ++ mid) old post cs hold
  simp only [Nat.add_zero] at hst
  rw [e] at hst
  have e2 : (pre ++ mid).length = pre.length + sLen * i.size := by rw [List.length_append, hmid, hsz]
  rw [e2] at hst
  simp only [List.append_assoc] at hst ⊢
  simp [Builtin.append_, run_underlying Try.underlying84, sizeOf, typeInfo, hi, Builtin.lenOf, hroom, hf, Addr.add_lit, hst]
theorem take2 {post : List Value} (h : 2 ≤ post.length) : ∃ old rest, post = old ++ rest ∧ old.length = 2 :=
  ⟨post.take 2, post.drop 2, (List.take_append_drop 2 post).symm, by simp; omega⟩
set_option maxRecDepth 100000 in
set_option maxHeartbeats 4000000 in
/-- at the end, there is room -/
theorem insert_end_room (w : World) (base b cap vb : Nat) (pre post : List Value) (l : List Pl) (p : Pl) (hbase : base ≤ b) (hb : RowB w b (pre ++ Pls l ++ post)) (hcap : cap ≤ maxLen) (hpost : cap * 2 ≤ l.length * 2 + post.length) (hlt : l.length < cap) (hv : Box w vb (cPl p).toArray 72) :
    Calls Try.prog 53 #[.slice (some ⟨b, pre.length, none⟩) l.length cap, .int .i64 (l.length : Nat), .slice (some ⟨vb, 0, none⟩) 1 1] w fun e w' => Ins w base (.slice (some ⟨b, pre.length, none⟩) l.length cap) (l ++ [p]) w' e := by
  obtain ⟨old, rest, rfl, ho⟩ := take2 (post := post) (by omega)
  have hb' : RowB w b (pre ++ Pls l ++ old ++ rest) := by simpa [List.append_assoc] using hb
  have hrun : ∀ ty, (Builtin.append_ #[84, 84] ty #[.slice (some ⟨b, pre.length, none⟩) l.length cap, .slice (some ⟨vb, 0, none⟩) 1 1]).run Try.prog w = _ := fun ty =>
    run_append_roomK w ty b pre (Pls l) old rest (cPl p) ⟨vb, 0, none⟩ l.length cap 1 hb' (Pls_len l) ho rfl (sub_one w vb p hv) (cPl_one p) hlt
  have hN : LnAt (w.setRow b (pre ++ Pls l ++ cPl p ++ rest).toArray) base (.slice (some ⟨b, pre.length, none⟩) (l.length + 1) cap) (l ++ [p]) ∧ RowTo w (w.setRow b (pre ++ Pls l ++ cPl p ++ rest).toArray) (.slice (some ⟨b, pre.length, none⟩) l.length cap) (.slice (some ⟨b, pre.length, none⟩) (l.length + 1) cap) := by
    refine ⟨.inr ⟨b, pre, rest, cap, by simp, hbase, ?_, by simp; omega, hcap, by simp at hpost ⊢; omega⟩, ⟨(fr_setRow w b _).mono (fun k _ h => by rw [h]; rfl), .inl rfl⟩⟩
    have := hb.set_ (ds := pre ++ Pls l ++ cPl p ++ rest)
    rw [Pls_app]
    simpa [Pls, List.append_assoc] using this
  generalize w.setRow b (pre ++ Pls l ++ cPl p ++ rest).toArray = W at hrun hN
  obtain ⟨n, hn⟩ : ∃ n, l.length = n := ⟨_, rfl⟩
  obtain ⟨o, hoo⟩ : ∃ n, pre.length = n := ⟨_, rfl⟩
  rw [hn] at hrun hN hlt ⊢
  rw [hoo] at hrun hN ⊢
  have HN := Lib.hid hN
  have d1 : ¬ cap = n := by omega
  have hm : n ≤ 9223372036854775807 := by unfold maxLen at hcap; omega
  have hm2 : n ≤ cap := by omega
  clear hN hb hb' hv hn hoo ho hpost hbase
  go_enter Try.func53, Try.ntmps53
  go_wp2_with (at_builtin; refine Lib.wpList_append_run _ rfl _ _ _ _ rfl _ _ rfl rfl _ _ (hrun _) ?_)
  go_ret
  exact ⟨_, rfl, HN.out.1, HN.out.2⟩
set_option maxRecDepth 100000 in
set_option maxHeartbeats 4000000 in
/-- at the end, no room -/
theorem insert_end_grow (w : World) (base b vb : Nat) (pre post : List Value) (l : List Pl) (p : Pl) (hbase : base ≤ w.heap.size) (hb : RowB w b (pre ++ Pls l ++ post)) (hsmall : l.length ≤ 100000) (hv : Box w vb (cPl p).toArray 72) :
    Calls Try.prog 53 #[.slice (some ⟨b, pre.length, none⟩) l.length l.length, .int .i64 (l.length : Nat), .slice (some ⟨vb, 0, none⟩) 1 1] w fun e w' => Ins w base (.slice (some ⟨b, pre.length, none⟩) l.length l.length) (l ++ [p]) w' e := by
  obtain ⟨i, hi, hz, hs, hby⟩ := pl_parts
  have hrun : ∀ ty, (Builtin.append_ #[84, 84] ty #[.slice (some ⟨b, pre.length, none⟩) l.length l.length, .slice (some ⟨vb, 0, none⟩) 1 1]).run Try.prog w = _ := fun ty =>
    run_append_grow (P := Try.prog) w 84 ty 72 i _ Try.underlying84 hi hz ⟨b, pre.length, none⟩ l.length l.length (Pls l) (by rw [hs]; exact Pls_len l) (fun j v h => RowB.cells hb j v h) ⟨vb, 0, none⟩ 1 1 (cPl p) (by rw [hs]; rfl) (sub_one w vb p hv) (by omega) (by omega)
      (by rw [hby]; exact growslice_fits (by omega) (by omega))
  have hge := grownCap_ge w (l.length + 1) l.length 72
  have hcm := grownCap_le_maxLen w (l.length + 1) l.length 72 (by unfold maxLen; omega)
  generalize grownCap w (l.length + 1) l.length 72 = cap at hrun hge hcm
  have hN := ins_new (base := base) (.slice (some ⟨b, pre.length, none⟩) l.length l.length) (l := l ++ [p]) (cap := cap) (tail := (Builtin.zeroCells (Value.agg #[.int .u32 0, .int .u8 0]).cells (cap - (l.length + 1))).toList) hbase (by simpa using hge) hcm (by rw [zeros_len]; simp; omega)
  have he : ((Pls l).toArray ++ (cPl p).toArray ++ Builtin.zeroCells (Value.agg #[.int .u32 0, .int .u8 0]).cells (cap - (l.length + 1))) = (Pls (l ++ [p]) ++ (Builtin.zeroCells (Value.agg #[.int .u32 0, .int .u8 0]).cells (cap - (l.length + 1))).toList).toArray := by
    apply Array.ext'; simp [Pls]
  rw [he] at hrun
  generalize (Pls (l ++ [p]) ++ (Builtin.zeroCells (Value.agg #[.int .u32 0, .int .u8 0]).cells (cap - (l.length + 1))).toList).toArray = cs at hrun hN
  rw [show (l ++ [p]).length = l.length + 1 by simp] at hN
  obtain ⟨n, hn⟩ : ∃ n, l.length = n := ⟨_, rfl⟩
  obtain ⟨o, hoo⟩ : ∃ n, pre.length = n := ⟨_, rfl⟩
  rw [hn] at hrun hN hsmall ⊢
  rw [hoo] at hrun hN ⊢
  have HN := Lib.hid hN
  have hm : n ≤ 9223372036854775807 := by omega
  clear hN hge hcm he hv hi hz hs hby hb hn hoo
  go_enter Try.func53, Try.ntmps53
  go_wp2_with (at_builtin; refine Lib.wpList_append_run _ rfl _ _ _ _ rfl _ _ rfl rfl _ _ (hrun _) ?_)
  all_goals (go_ret; exact ⟨_, rfl, HN.out.1, HN.out.2⟩)
end Go.Proofs.Ytpndcpmfcajmdaa.Lock
