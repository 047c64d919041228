import Derived.Test.YteggcehjpfmikaaWt7
import Derived.Test.YteggcehjpfmikaaWtE
import Derived.Test.YteggcehjpfmikaaWtJ
import Derived.Deep.DeepCutAuto
namespace Go.Proofs.Yteggcehjpfmikaa.Wal
open Go.ChangeShapes Go.WideShapes Go.ChangeAt Go.RowKit Go.IntWalk Go.Proofs.Mem Go.Proofs.Each Law Go.Proofs.Yteggcehjpfmikaa.Disk Strip Rec
set_option linter.unusedVariables false
set_option linter.unusedSimpArgs false
section
variable {w w' : World} {T : Nat → Prop} {t g : Nat} {fv : Nat → Value} {D : Dv} {L : Lv}
def RecR (w : World) (r : Rc) (e : Ending) (w' : World) : Prop := ∃ a b ta da, e = .returned (.agg (rcV r a b ta da)) ∧ RcOwn w' w.heap.size r a b ta da ∧ Below w.heap.size w w'
@[reducible] def st12 (W : World) (p : Nat) (a b c d e f g h i j k l : Value) : World := (((((((((((W.setCell ⟨p, 0, none⟩ a).setCell ⟨p, 1, none⟩ b).setCell ⟨p, 2, none⟩ c).setCell ⟨p, 3, none⟩ d).setCell ⟨p, 4, none⟩ e).setCell ⟨p, 5, none⟩ f).setCell ⟨p, 6, none⟩ g).setCell ⟨p, 7, none⟩ h).setCell ⟨p, 8, none⟩ i).setCell ⟨p, 9, none⟩ j).setCell ⟨p, 10, none⟩ k).setCell ⟨p, 11, none⟩ l
theorem st12_box {W : World} {p : Nat} {T : TypeId} (X : Box W p (bareC 0 0 0 0) T) (a b c d e f g h i j k l : Value) : Box (st12 W p a b c d e f g h i j k l) p #[a, b, c, d, e, f, g, h, i, j, k, l] T := by
  have X0 : Box W p #[.int .u8 0, .int .u32 0, .int .u64 0, .int .u64 0, .int .u32 0, .int .u16 0, .bool false, .bool false, .slice none 0 0, .slice none 0 0, .slice none 0 0, .slice none 0 0] T := X
  have X1 : Box _ p #[a, .int .u32 0, .int .u64 0, .int .u64 0, .int .u32 0, .int .u16 0, .bool false, .bool false, .slice none 0 0, .slice none 0 0, .slice none 0 0, .slice none 0 0] T := X0.set_ 0 a
  have X2 : Box _ p #[a, b, .int .u64 0, .int .u64 0, .int .u32 0, .int .u16 0, .bool false, .bool false, .slice none 0 0, .slice none 0 0, .slice none 0 0, .slice none 0 0] T := X1.set_ 1 b
  have X3 : Box _ p #[a, b, c, .int .u64 0, .int .u32 0, .int .u16 0, .bool false, .bool false, .slice none 0 0, .slice none 0 0, .slice none 0 0, .slice none 0 0] T := X2.set_ 2 c
  have X4 : Box _ p #[a, b, c, d, .int .u32 0, .int .u16 0, .bool false, .bool false, .slice none 0 0, .slice none 0 0, .slice none 0 0, .slice none 0 0] T := X3.set_ 3 d
  have X5 : Box _ p #[a, b, c, d, e, .int .u16 0, .bool false, .bool false, .slice none 0 0, .slice none 0 0, .slice none 0 0, .slice none 0 0] T := X4.set_ 4 e
  have X6 : Box _ p #[a, b, c, d, e, f, .bool false, .bool false, .slice none 0 0, .slice none 0 0, .slice none 0 0, .slice none 0 0] T := X5.set_ 5 f
  have X7 : Box _ p #[a, b, c, d, e, f, g, .bool false, .slice none 0 0, .slice none 0 0, .slice none 0 0, .slice none 0 0] T := X6.set_ 6 g
  have X8 : Box _ p #[a, b, c, d, e, f, g, h, .slice none 0 0, .slice none 0 0, .slice none 0 0, .slice none 0 0] T := X7.set_ 7 h
  have X9 : Box _ p #[a, b, c, d, e, f, g, h, i, .slice none 0 0, .slice none 0 0, .slice none 0 0] T := X8.set_ 8 i
  have X10 : Box _ p #[a, b, c, d, e, f, g, h, i, j, .slice none 0 0, .slice none 0 0] T := X9.set_ 9 j
  have X11 : Box _ p #[a, b, c, d, e, f, g, h, i, j, k, .slice none 0 0] T := X10.set_ 10 k
  have X12 : Box _ p #[a, b, c, d, e, f, g, h, i, j, k, l] T := X11.set_ 11 l
  exact X12
theorem st12_below {B : Nat} {w W : World} {p : Nat} (h : Below B w W) (hp : B ≤ p) (a b c d e f g h' i j k l : Value) : Below B w (st12 W p a b c d e f g h' i j k l) :=
  (((((((((((h.setCell hp a).setCell hp b).setCell hp c).setCell hp d).setCell hp e).setCell hp f).setCell hp g).setCell hp h').setCell hp i).setCell hp j).setCell hp k).setCell hp l
theorem st12_far {W : World} {z p : Nat} {C : Array Value} {T : TypeId} (X : Box W z C T) (hz : z ≠ p) (a b c d e f g h i j k l : Value) : Box (st12 W p a b c d e f g h i j k l) z C T :=
  (((((((((((X.far hz a).far hz b).far hz c).far hz d).far hz e).far hz f).far hz g).far hz h).far hz i).far hz j).far hz k).far hz l
theorem st12_own {W : World} {B p : Nat} {r : Rc} {va vb vt vd : Value} (X : RcOwn W B r va vb vt vd) (hp : p < B) (a b c d e f g h i j k l : Value) : RcOwn (st12 W p a b c d e f g h i j k l) B r va vb vt vd :=
  (((((((((((X.far hp a).far hp b).far hp c).far hp d).far hp e).far hp f).far hp g).far hp h).far hp i).far hp j).far hp k).far hp l
set_option maxRecDepth 100000 in
set_option maxHeartbeats 16000000 in
theorem record_any (h : LgAt w T t g fv D L) (ok : LvOk D L) (i : Nat) (hi : i < L.ss.length) (r : Rc) (s n : Nat) (hs : L.ss.getD i 0 = s) (hn : endS L.ss L.ys.length i = n) (hsn : s < n) (hnl : n ≤ L.ys.length) (hr : resD ((L.ys.drop s).take (n - s)) = (some r, 0)) :
    Calls Try.prog 43 #[.pointer (some ⟨t, 0, none⟩), .int .i64 i] w (RecR w r) := by
  obtain ⟨S, A, c, At, ct, h1, h2, h3, h4, h5, h6, h7, h8, h9⟩ := id h
  have ir := IR.of_own h3
  have it := IR.of_own h4
  obtain ⟨b, o, rfl, hcc, _⟩ := ir.index 0 (by omega)
  obtain ⟨b2, o2, rfl, hb2, hc2⟩ := it.index i hi
  have hc2' : w.cell? ⟨b2, o2 + i, none⟩ = some (.int .i64 s) := by rw [← hs]; exact hc2
  have sub := ir_sub ir s n (by omega) hnl
  obtain ⟨A9, c9, e9, hlc, hcm⟩ := ir.form
  injection e9 with e8 _ e9
  rw [← e9] at hlc hcm
  clear e8 e9
  have hnn := ok.nn
  have hby : Bytes ((L.ys.drop s).take (n - s)) := fun x hx => ok.by_ x (List.mem_of_mem_drop (List.mem_of_mem_take hx))
  have hlen : ((L.ys.drop s).take (n - s)).length ≤ 100000 := by rw [List.length_take, List.length_drop]; omega
  have SK := Lib.hid (fun W (hb : Below w.heap.size w W) => (⟨(h1.later hb).cell 6, (h1.later hb).cell 7, (hb.cell (p := ⟨b2, o2 + i, none⟩) hb2).trans hc2'⟩ : W.cell? ⟨t, 6, none⟩ = some (.slice (some ⟨b, o, none⟩) L.ys.length c) ∧ W.cell? ⟨t, 7, none⟩ = some (.slice (some ⟨b2, o2, none⟩) L.ss.length ct) ∧ W.cell? ⟨b2, o2 + i, none⟩ = some (.int .i64 s)))
  have CE := Lib.hid (fun W (hb : Below w.heap.size w W) => by
    have := endof_any W (h1.later hb) w.heap.size L.ss (it.below hb) ok.ssl (by omega) i (by omega) (by have := ok.ssl; omega)
    rw [hn] at this
    exact this)
  have CD := Lib.hid (fun W (hb : Below w.heap.size w W) => (decode_all_any W (.slice (some ⟨b, o + s, none⟩) (n - s) (c - s)) _ ((sub.below hb).more hb.size) hby hlen).mono (fun e w' hp => (show ∃ a b ta da, e = .returned (.tuple #[.agg (rcV r a b ta da), .int .i64 (lenB ((L.ys.drop s).take (n - s))), .int .u16 0]) ∧ RcOwn w' W.heap.size r a b ta da ∧ Below W.heap.size W w' by
    unfold DecodePost at hp
    rw [hr] at hp
    exact hp)))
  obtain ⟨nb, hnb⟩ : ∃ nb, lenB ((L.ys.drop s).take (n - s)) = nb := ⟨_, rfl⟩
  rw [hnb] at CD
  obtain ⟨N, hN⟩ : ∃ N, L.ys.length = N := ⟨_, rfl⟩
  obtain ⟨M, hM⟩ : ∃ M, L.ss.length = M := ⟨_, rfl⟩
  rw [hN] at SK hnl hlc
  rw [hM] at SK hi
  have a0 : (0 : Int) ≤ (i : Int) := by omega
  have a1 : (i : Int) < (M : Int) := by omega
  have a2 : (s : Int) ≤ (n : Int) := by omega
  have a3 : (n : Int) ≤ (N : Int) := by omega
  have a4 : (n : Int) ≤ (c : Int) := by omega
  have a5 : (0 : Int) ≤ (s : Int) := by omega
  have a6 : n ≤ c := by omega
  have a7 : (c = s) = False := eq_false (by omega)
  have BX := Box.new w (bareC 0 0 0 0) 54
  have bb := new_ (Below.refl w.heap.size w) (.cells (bareC 0 0 0 0) 54)
  obtain ⟨z, hz⟩ : ∃ z, w.heap.size = z := ⟨_, rfl⟩
  obtain ⟨w1, hw1⟩ : ∃ w1, w.alloc (.cells (bareC 0 0 0 0) 54) = w1 := ⟨_, rfl⟩
  rw [hw1] at BX bb
  rw [hz] at BX
  have HB1 := Lib.hid bb
  have HX1 := Lib.hid BX
  have HZ := Lib.hid hz
  clear BX bb h1 h2 h3 h4 ir it hc2 hc2' sub hby hlen hr hn hs hnb hN hM h5 h6 h7 h8 h9 h ok hcc hcm hnn
  go_enter Try.func43, Try.ntmps43
  go_upto_region 1 with fail
  have HD1 := Lib.hid (show Below w.heap.size w w1.drew from HB1.out.drew)
  have HA1 := Lib.hid (show Below w.heap.size w (w1.alloc (.cells (bareC 0 0 0 0) 54)).drew from (HB1.out.alloc HB1.out.size _).drew)
  have HLT := Lib.hid (show z < w1.heap.size from HX1.out.lt)
  have K0 := Lib.hid (SK.out _ HD1.out)
  have K1 := Lib.hid (SK.out _ HA1.out)
  go_cut [5] (fun v wx => ∃ (p : Nat) (a b ta da : Value), v = .pointer (some ⟨p, 0, none⟩) ∧ p ≠ z ∧ w.heap.size ≤ p ∧ Box wx p (rcV r a b ta da) 54 ∧ Box wx z (bareC 0 0 0 0) 54 ∧ RcOwn wx w1.heap.size r a b ta da ∧ Below w.heap.size w wx)
  case first =>
    go_region_held3 (fun W => W.cell? ⟨t, 6, none⟩ = some (.slice (some ⟨b, o, none⟩) N c) ∧ W.cell? ⟨t, 7, none⟩ = some (.slice (some ⟨b2, o2, none⟩) M ct) ∧ W.cell? ⟨b2, o2 + i, none⟩ = some (.int .i64 s))
      (first | with_reducible exact K0.out | with_reducible exact K1.out | with_reducible exact SK.out _ HW3.out | with_reducible exact SK.out _ (HW3.out.alloc HW3.out.size _) | with_reducible exact SK.out _ (st12_below HW3.out HB1.out.size _ _ _ _ _ _ _ _ _ _ _ _) | with_reducible exact SK.out _ (st12_below (HW3.out.alloc HW3.out.size _) HW3.out.size _ _ _ _ _ _ _ _ _ _ _ _) | (go_split_ands; first | with_reducible exact K0.out | with_reducible exact K1.out | with_reducible exact SK.out _ HW3.out))
      (first
      | (go_at_call 44; (first | (with_reducible refine (CE.out _ HD1.out).mono ?_) | (with_reducible refine (CE.out _ HA1.out).mono ?_)); rintro er w3 ⟨rfl, rfl⟩)
      | (go_at_call 55; (with_reducible refine (CD.out _ HD1.out).mono ?_); rintro er w3 ⟨va, vb, vt, vd, rfl, ho3, hb3⟩; have HO3 := Lib.hid ho3; have HB3 := Lib.hid hb3; obtain ⟨B1, k1, e1, _, _⟩ := ho3.in_.a.form; obtain ⟨B2, k2, e2, _, _⟩ := ho3.in_.b.form; obtain ⟨B3, k3, e3, _, _⟩ := ho3.in_.t.form; obtain ⟨B4, k4, e4, _, _⟩ := ho3.in_.d.form; subst e1 e2 e3 e4; have HW3 := Lib.hid (HD1.out.trans (hb3.mono HD1.out.size)); clear ho3 hb3)
      | (go_at_call 55; (with_reducible refine (CD.out _ HA1.out).mono ?_); rintro er w3 ⟨va, vb, vt, vd, rfl, ho3, hb3⟩; have HO3 := Lib.hid ho3; have HB3 := Lib.hid hb3; obtain ⟨B1, k1, e1, _, _⟩ := ho3.in_.a.form; obtain ⟨B2, k2, e2, _, _⟩ := ho3.in_.b.form; obtain ⟨B3, k3, e3, _, _⟩ := ho3.in_.t.form; obtain ⟨B4, k4, e4, _, _⟩ := ho3.in_.d.form; subst e1 e2 e3 e4; have HW3 := Lib.hid (HA1.out.trans (hb3.mono HA1.out.size)); have X3 := ((Box.new w1 (bareC 0 0 0 0) 54).drew).later hb3; have x3 := X3.cell; have y3 := X3.frozen; have HX3 := Lib.hid X3; clear X3; clear ho3 hb3))
    all_goals
      (go_wp2; go_meet; first
        | exact ⟨_, _, _, _, _, rfl, by have := HB3.out.size; have := HLT.out; have h : w1.drew.heap.size = w1.heap.size := rfl; omega, HW3.out.size, Box.new w3 _ _, ((HX1.out.drew).later HB3.out).alloc _, HO3.out.later (new_ (Below.refl _ _) _), HW3.out.alloc HW3.out.size _⟩
        | exact ⟨_, _, _, _, _, rfl, by have := HLT.out; omega, HB1.out.size, st12_box HX3.out _ _ _ _ _ _ _ _ _ _ _ _, st12_far (((HX1.out.alloc _).drew).later HB3.out) (by have := HLT.out; omega) _ _ _ _ _ _ _ _ _ _ _ _, (st12_own HO3.out (by show w1.heap.size < (w1.alloc _).heap.size; simp) _ _ _ _ _ _ _ _ _ _ _ _).lower (by show w1.heap.size ≤ (w1.alloc _).heap.size; simp), st12_below HW3.out HB1.out.size _ _ _ _ _ _ _ _ _ _ _ _⟩)
  case rest =>
    obtain ⟨p, va, vb, vt, vd, rfl, hpz, hpw, XP, XZ, hown, hbel⟩ := hcut
    rename_i hK
    refine hK _ _ ?_
    obtain ⟨B1, k1, e1, _, _⟩ := hown.in_.a.form
    obtain ⟨B2, k2, e2, _, _⟩ := hown.in_.b.form
    obtain ⟨B3, k3, e3, _, _⟩ := hown.in_.t.form
    obtain ⟨B4, k4, e4, _, _⟩ := hown.in_.d.form
    subst e1 e2 e3 e4
    obtain ⟨w6, hw6⟩ : ∃ w6, w6 = wc := ⟨_, rfl⟩
    rw [← hw6] at hown hbel XP XZ ⊢
    clear hw6
    have xp := XP.cell
    have xz := XZ.cell
    have yz := XZ.frozen
    have HXZ := Lib.hid XZ
    have HOW := Lib.hid hown
    have HBL := Lib.hid hbel
    clear hK hown hbel XP XZ K0 K1 CE CD SK
    go_wp2
    have b9 := st12_box HXZ.out (.int .u8 r.k) (.int .u32 r.t) (.int .u64 r.p) (.int .u64 r.n) (.int .u32 r.c.pg) (.int .u16 r.c.sl) (.bool r.c.had) (.bool r.c.has) (.slice B1 r.c.xs.length k1) (.slice B2 r.c.ys.length k2) (.slice B3 r.ts.length k3) (.slice B4 r.ds.length k4)
    have o9 := st12_own HOW.out HLT.out (.int .u8 r.k) (.int .u32 r.t) (.int .u64 r.p) (.int .u64 r.n) (.int .u32 r.c.pg) (.int .u16 r.c.sl) (.bool r.c.had) (.bool r.c.has) (.slice B1 r.c.xs.length k1) (.slice B2 r.c.ys.length k2) (.slice B3 r.ts.length k3) (.slice B4 r.ds.length k4)
    have l9 := st12_below HBL.out (p := z) (by rw [HZ.out]; exact Nat.le_refl _) (.int .u8 r.k) (.int .u32 r.t) (.int .u64 r.p) (.int .u64 r.n) (.int .u32 r.c.pg) (.int .u16 r.c.sl) (.bool r.c.had) (.bool r.c.has) (.slice B1 r.c.xs.length k1) (.slice B2 r.c.ys.length k2) (.slice B3 r.ts.length k3) (.slice B4 r.ds.length k4)
    obtain ⟨w9, hw9⟩ : ∃ w9, st12 w6 z (.int .u8 r.k) (.int .u32 r.t) (.int .u64 r.p) (.int .u64 r.n) (.int .u32 r.c.pg) (.int .u16 r.c.sl) (.bool r.c.had) (.bool r.c.has) (.slice B1 r.c.xs.length k1) (.slice B2 r.c.ys.length k2) (.slice B3 r.ts.length k3) (.slice B4 r.ds.length k4) = w9 := ⟨_, rfl⟩
    rw [hw9] at b9 o9 l9
    simp only [st12] at hw9
    rw [hw9]
    have HO9 := Lib.hid o9
    have HL9 := Lib.hid l9
    clear o9 l9 hw9 xp xz yz
    have r9_0 : w9.cell? ⟨z, 0, none⟩ = some (.int .u8 r.k) := b9.cell 0
    have r9_1 : w9.cell? ⟨z, 1, none⟩ = some (.int .u32 r.t) := b9.cell 1
    have r9_2 : w9.cell? ⟨z, 2, none⟩ = some (.int .u64 r.p) := b9.cell 2
    have r9_3 : w9.cell? ⟨z, 3, none⟩ = some (.int .u64 r.n) := b9.cell 3
    have r9_4 : w9.cell? ⟨z, 4, none⟩ = some (.int .u32 r.c.pg) := b9.cell 4
    have r9_5 : w9.cell? ⟨z, 5, none⟩ = some (.int .u16 r.c.sl) := b9.cell 5
    have r9_6 : w9.cell? ⟨z, 6, none⟩ = some (.bool r.c.had) := b9.cell 6
    have r9_7 : w9.cell? ⟨z, 7, none⟩ = some (.bool r.c.has) := b9.cell 7
    have r9_8 : w9.cell? ⟨z, 8, none⟩ = some (.slice B1 r.c.xs.length k1) := b9.cell 8
    have r9_9 : w9.cell? ⟨z, 9, none⟩ = some (.slice B2 r.c.ys.length k2) := b9.cell 9
    have r9_10 : w9.cell? ⟨z, 10, none⟩ = some (.slice B3 r.ts.length k3) := b9.cell 10
    have r9_11 : w9.cell? ⟨z, 11, none⟩ = some (.slice B4 r.ds.length k4) := b9.cell 11
    clear b9
    refine bodyPost_ret (v := .agg #[.int .u8 r.k, .int .u32 r.t, .int .u64 r.p, .int .u64 r.n, .int .u32 r.c.pg, .int .u16 r.c.sl, .bool r.c.had, .bool r.c.has, .slice B1 r.c.xs.length k1, .slice B2 r.c.ys.length k2, .slice B3 r.ts.length k3, .slice B4 r.ds.length k4]) (by simp [results, Try.results43, go_sem, r9_0, r9_1, r9_2, r9_3, r9_4, r9_5, r9_6, r9_7, r9_8, r9_9, r9_10, r9_11]; try rfl) rfl ?_
    exact ⟨_, _, _, _, rfl, HO9.out.lower HB1.out.size, HL9.out⟩
end
end Go.Proofs.Yteggcehjpfmikaa.Wal
namespace Go.Proofs.Yteggcehjpfmikaa.Wal
open Go.ChangeShapes Go.WideShapes Go.ChangeAt Go.RowKit Go.IntWalk Go.Proofs.Mem Go.Proofs.Each Law Go.Proofs.Yteggcehjpfmikaa.Disk Strip Rec
set_option linter.unusedVariables false
set_option linter.unusedSimpArgs false
theorem seg_rec {rs : List Rc} {k : Nat} (hk : k < rs.length) : (strm (rs.take (k + 1))).length = (strm (rs.take k)).length + (encS (rs[k]'hk)).length ∧ ((strm rs).drop (strm (rs.take k)).length).take (encS (rs[k]'hk)).length = encS (rs[k]'hk) := by
  have h1 : rs.take (k + 1) = rs.take k ++ [rs[k]'hk] := by rw [List.take_add_one, List.getElem?_eq_getElem hk]; rfl
  have h2 : rs.take k ++ (rs[k]'hk) :: rs.drop (k + 1) = rs := by rw [List.getElem_cons_drop, List.take_append_drop]
  have h3 : strm rs = strm (rs.take k) ++ (encS (rs[k]'hk) ++ strm (rs.drop (k + 1))) := by
    have := congrArg strm h2
    rw [strm_app, strm_cons] at this
    exact this.symm
  refine ⟨by rw [h1, strm_snoc, List.length_append], ?_⟩
  rw [h3, List.drop_left' rfl, List.take_left' rfl]
theorem endS_rec {rs : List Rc} {k : Nat} (hk : k < rs.length) : endS (begs rs) (strm rs).length k = ((strm (rs.take (k + 1))).length : Nat) := by
  unfold endS
  rw [if_neg (by omega), begs_len]
  by_cases h1 : (k : Int) + 1 < rs.length
  · rw [if_pos h1, show ((k : Int) + 1).toNat = k + 1 by omega, begs_getD rs (k + 1) (by omega)]
  · rw [if_neg h1, show k + 1 = rs.length by omega, List.take_length]
theorem from_zero {ba : Int} {rs : List Rc} {r : Nat} (hb : 0 ≤ ba) (h : FirstYes (fromF ba 0 (begs rs)) rs.length r) : r = 0 := by
  rcases Nat.eq_zero_or_pos r with h0 | h0
  · exact h0
  · have h1 := h.2.1 0 h0
    have h2 := h.1
    unfold fromF at h1
    rw [begs_len, if_pos (by omega), begs_getD rs 0 (by omega)] at h1
    have := of_decide_eq_false h1
    omega
def Apart (v : Value) (x : Ent) : Prop := ∀ k, v.ownBlock = some k → x.va.ownBlock ≠ some k ∧ x.vb.ownBlock ≠ some k ∧ x.vt.ownBlock ≠ some k ∧ x.vd.ownBlock ≠ some k
structure EntO (W : World) (B : Nat) (v : Value) (x : Ent) : Prop where
  o : RcOwn W B x.r x.va x.vb x.vt x.vd
  a : Apart v x
theorem EntO.later {W W' : World} {B : Nat} {v : Value} {x : Ent} (h : EntO W B v x) (hb : Below W.heap.size W W') : EntO W' B v x := ⟨h.o.later hb, h.a⟩
theorem EntO.row {W W' : World} {B : Nat} {v v' : Value} {x : Ent} (h : EntO W B v x) (hr : RowTo W W' v v') : EntO W' B v' x := by
  refine ⟨⟨Disk.own_frS h.o.a hr.fr (fun k hk hs => (h.a k hs).1 hk), Disk.own_frS h.o.b hr.fr (fun k hk hs => (h.a k hs).2.1 hk), Disk.own_frS h.o.t hr.fr (fun k hk hs => (h.a k hs).2.2.1 hk), Disk.own_frS h.o.d hr.fr (fun k hk hs => (h.a k hs).2.2.2 hk)⟩, fun k hk => ?_⟩
  rcases hr.own with e | ⟨m, e, hm⟩
  · exact h.a k (by rw [← e]; exact hk)
  · have : m = k := by rw [e] at hk; exact Option.some.inj hk
    subst this
    exact ⟨fun hv => by have := (h.o.a.lt m hv).2; omega, fun hv => by have := (h.o.b.lt m hv).2; omega, fun hv => by have := (h.o.t.lt m hv).2; omega, fun hv => by have := (h.o.d.lt m hv).2; omega⟩
def EnR (w : World) (ba : Int) (rs : List Rc) (e : Ending) (w' : World) : Prop :=
  ∃ A c el, e = .returned (.slice A el.length c) ∧ EsOk ba rs el ∧ w'.ownsRow w.heap.size 58 13 (.slice A el.length c) el.length (el.flatMap cEnt) ∧ (∀ x ∈ el, EntO w' w.heap.size (.slice A el.length c) x) ∧ Below w.heap.size w w'
section
variable {w w' : World} {T : Nat → Prop} {t g : Nat} {fv : Nat → Value} {D : Dv} {L : Lv}
set_option maxRecDepth 100000 in
set_option maxHeartbeats 16000000 in
theorem entries_all (h : LgAt w T t g fv D L) (ok : LvOk D L) (rs : List Rc) (hys : L.ys = strm rs) (hss : L.ss = begs rs) (good : RsOk rs) :
    Calls Try.prog 16 #[.pointer (some ⟨t, 0, none⟩), .int .u64 0] w (EnR w L.h.ba rs) := by
  obtain ⟨S, A, c, At, ct, h1, h2, h3, h4, h5, h6, h7, h8, h9⟩ := id h
  have it := IR.of_own h4
  have hba := ok.ba
  have hnn := ok.nn
  have CF := Lib.hid (from_any w h1 L.ss it ok.ssl 0 ok.ri (by omega))
  have hsl : L.ss.length = rs.length := by rw [hss, begs_len]
  have hmany : rs.length ≤ 4000 := by have := strm_many good; rw [← hys] at this; omega
  obtain ⟨n, hn⟩ : ∃ n, rs.length = n := ⟨_, rfl⟩
  rw [hn] at hsl hmany
  obtain ⟨ba, hbe⟩ : ∃ ba, L.h.ba = ba := ⟨_, rfl⟩
  have SK := Lib.hid (fun W (hb : Below w.heap.size w W) => (by
    have := (h1.later hb).cell 7
    rw [hsl] at this
    exact this : W.cell? ⟨t, 7, none⟩ = some (.slice At n ct)))
  have SI := Lib.hid (fun (W : World) (hb : Below w.heap.size w W) (k : Nat) (hk : k < n) => (by
    obtain ⟨b2, o2, e2, hb2, hc2⟩ := it.index k (by omega)
    refine ⟨b2, o2, e2, ?_⟩
    rw [hss, begs_getD rs k (by omega)] at hc2
    exact (hb.cell (p := ⟨b2, o2 + k, none⟩) hb2).trans hc2 : ∃ b2 o2, At = some ⟨b2, o2, none⟩ ∧ W.cell? ⟨b2, o2 + k, none⟩ = some (.int .i64 ((strm (rs.take k)).length : Nat))))
  have hpl : ∀ k, ba + ((strm (rs.take k)).length : Nat) ≤ 18446744073709551615 := fun k => by
    have := strm_take_all rs k; rw [← hys] at this; omega
  have CP := Lib.hid (fun (W : World) (hb : Below w.heap.size w W) (k : Nat) => (by
    have := place_any W (h1.later hb) (strm (rs.take k)).length ⟨by omega, by rw [hbe]; exact hpl k⟩
    rw [hbe] at this
    exact this))
  have CR := Lib.hid (fun (W : World) (hb : Below w.heap.size w W) (k : Nat) (hk : k < rs.length) => (by
    obtain ⟨e1, e2⟩ := seg_rec hk
    refine record_any (h.later hb) ok k (by rw [hss, begs_len]; exact hk) (rs[k]'hk) (strm (rs.take k)).length (strm (rs.take (k + 1))).length (by rw [hss, begs_getD rs k hk]) (by rw [hss, hys, endS_rec hk]) (by have := enc_min (rs[k]'hk) (good _ (List.getElem_mem hk)).2; omega) (by rw [hys]; exact strm_take_all rs (k + 1)) ?_
    rw [hys, e1, Nat.add_sub_cancel_left, e2]
    have := (resD_enc (rs[k]'hk) (good _ (List.getElem_mem hk)).1 (good _ (List.getElem_mem hk)).2 []).1
    rw [List.append_nil] at this
    exact this : Calls Try.prog 43 #[.pointer (some ⟨t, 0, none⟩), .int .i64 k] W (RecR W (rs[k]'hk))))
  have HSL := Lib.hid hsl
  have HSS := Lib.hid hss
  have HBA := Lib.hid (show 0 ≤ L.h.ba by omega)
  have HMN := Lib.hid hmany
  have HN := Lib.hid hn
  have HBE := Lib.hid hbe
  rw [hbe]
  clear h h1 h2 h3 h4 h5 h6 h7 h8 h9 it hba hnn hsl hys hss good hpl hmany hn ok hbe
  go_enter Try.func16, Try.ntmps16
  go_wp2_with fail
  (with_reducible refine CF.out.mono ?_)
  rintro e w2 ⟨r, rfl, hr, hb2⟩
  have hr0 : r = 0 := from_zero (rs := rs) HBA.out (by rw [HSS.out, begs_len] at hr; exact hr)
  subst hr0
  have HB2 := Lib.hid hb2
  clear hb2 hr
  go_wp2
  go_loopw [5, 6] (fun s5 s6 wr => ∃ (k : Nat) (A5 : Option Addr) (c5 : Nat) (el : List Ent), s5 = .slice A5 el.length c5 ∧ s6 = .int .i64 k ∧ k ≤ n ∧ el.length = k ∧ Hid (EsOk ba (rs.take k) el) ∧ Hid (wr.ownsRow w.heap.size 58 13 (.slice A5 el.length c5) el.length (el.flatMap cEnt)) ∧ Hid (∀ x ∈ el, EntO wr w.heap.size (.slice A5 el.length c5) x) ∧ Hid (Below w.heap.size w wr)) (fun _ s6 _ => n - (intOf s6).toNat)
  case atStart => exact ⟨0, none, 0, [], rfl, rfl, Nat.zero_le _, rfl, Lib.hid (EsOk.nil _), Lib.hid (World.ownsRow_nil _ _ _ _), Lib.hid (fun x hx => by cases hx), HB2⟩
  case round =>
    obtain ⟨k, A5, c5, el, rfl, rfl, hk, hel, HE, HO, HI, HB⟩ := hrel
    obtain ⟨wa, rfl⟩ : ∃ wa, wa = wr := ⟨wr, rfl⟩
    have k7 := SK.out _ HB.out
    by_cases hlt : k < n
    · have d1 : decide ((k : Int) < (n : Int)) = true := decide_eq_true (by omega)
      have d1' : decide (k < n) = true := decide_eq_true hlt
      have a0 : (0 : Int) ≤ (k : Int) := by omega
      have a1 : (k : Int) < (n : Int) := by omega
      have p3 : IntKind.i64.wrap ((k : Int) + 1) = (k : Int) + 1 := IntWalk.i64_in _ (by have := HMN.out; omega)
      obtain ⟨b2, o2, rfl, hc2⟩ := SI.out _ HB.out k hlt
      have CPk := Lib.hid (CP.out _ HB.out k)
      have CRk := Lib.hid (CR.out _ HB.out k (by rw [HN.out]; exact hlt))
      obtain ⟨s, hs⟩ : ∃ s, (strm (rs.take k)).length = s := ⟨_, rfl⟩
      obtain ⟨rr, hrr⟩ : ∃ rr, rs[k]'(by rw [HN.out]; exact hlt) = rr := ⟨_, rfl⟩
      rw [hs] at hc2 CPk
      rw [hrr] at CRk
      have HS := Lib.hid hs
      have HRR := Lib.hid (show rs[k]? = some rr by rw [List.getElem?_eq_getElem (by rw [HN.out]; exact hlt), hrr])
      have HLT := Lib.hid hlt
      have HEL := Lib.hid hel
      clear hs hrr hlt hel hk
      obtain ⟨ji, jz, hj1, hj2, hj3, hj4, hj5⟩ := ent_parts
      go_wp2_with fail
      (with_reducible refine CPk.out.mono ?_)
      rintro er w3 ⟨rfl, rfl⟩
      go_wp2_with fail
      (with_reducible refine CRk.out.mono ?_)
      rintro er w4 ⟨va, vb, vt, vd, rfl, ho4, hb4⟩
      have hbr := own_below HO.out hb4
      obtain ⟨y, hy⟩ : ∃ y, y = wa := ⟨_, rfl⟩
      clear hy y
      obtain ⟨B1, k1, e1, _, _⟩ := ho4.in_.a.form
      obtain ⟨B2, k2, e2, _, _⟩ := ho4.in_.b.form
      obtain ⟨B3, k3, e3, _, _⟩ := ho4.in_.t.form
      obtain ⟨B4, k4, e4, _, _⟩ := ho4.in_.d.form
      subst e1 e2 e3 e4
      obtain ⟨y, hy⟩ : ∃ y : Ent, y = ⟨ba + (s : Int), rr, (B1, k1), (B2, k2), (B3, k3), (B4, k4)⟩ := ⟨_, rfl⟩
      have HY := Lib.hid hy
      have HO4 := Lib.hid ho4
      have HR4 := Lib.hid hbr
      have HB4 := Lib.hid hb4
      have hws : w.heap.size ≤ w4.heap.size := Nat.le_trans HB.out.size hb4.size
      have HWS := Lib.hid hws
      clear hy ho4 hbr hb4 hws
      go_wp2_with (first
        | (at_builtin
           refine wpList_push_ss _ rfl _ _ _ rfl w.heap.size 58 ji jz ji.bytes Try.underlying31 hj1 hj2 hj3 rfl hj4 (by decide) cEnt_len cEnt_one _ el rfl (World.ownsRow.alloc HR4.out _) w4.heap.size y 58 rfl (by rw [HY.out]; exact Box.new w4 _ _) (by have := HMN.out; have := HLT.out; have := HEL.out; simp only [maxLen]; omega) (Nat.le_trans (Nat.mul_le_mul (show el.length + 1 ≤ 4001 by have := HMN.out; have := HLT.out; have := HEL.out; omega) hj5) (by decide)) (by have := HWS.out; simp; omega) ?_
           intro v5 w5 ho5 hr5
           have HO5 := Lib.hid ho5
           obtain ⟨A6, c6, e6⟩ := own_slice' ho5
           subst e6
           have HR5 := Lib.hid hr5
           clear ho5 hr5))
      have hl6 : (el ++ [y]).length = el.length + 1 := by simp
      have ho5 := HO5.out
      rw [hl6] at ho5
      have hb4' : Below wa.heap.size wa (w4.alloc (.cells (cEnt y).toArray 58)) := new_ HB4.out _
      have htk : rs.take (k + 1) = rs.take k ++ [y.r] := by rw [List.take_add_one, HRR.out, HY.out]; rfl
      have hlsn : y.lsn = ba + ((strm (rs.take k)).length : Nat) := by rw [HY.out, HS.out]
      have hry : RcOwn w4 wa.heap.size y.r y.va y.vb y.vt y.vd := by rw [HY.out]; exact HO4.out
      have hap : Apart (.slice A5 el.length c5) y := fun m hm => by
        have h1 := (HO.out.lt m hm).2
        exact ⟨fun hv => by have := (hry.a.lt m hv).1; omega, fun hv => by have := (hry.b.lt m hv).1; omega, fun hv => by have := (hry.t.lt m hv).1; omega, fun hv => by have := (hry.d.lt m hv).1; omega⟩
      have hr5 : RowTo (w4.alloc (.cells (cEnt y).toArray 58)) w5 (.slice A5 el.length c5) (.slice A6 (el ++ [y]).length c6) := by
        have := HR5.out
        rw [HY.out] at this ⊢
        exact this
      have hnew : EntO (w4.alloc (.cells (cEnt y).toArray 58)) w.heap.size (.slice A5 el.length c5) y := ⟨(hry.later (new_ (Below.refl _ _) _)).lower HB.out.size, hap⟩
      refine ⟨⟨k + 1, A6, c6, el ++ [y], by rw [hl6], by rfl, by have := HLT.out; omega, by rw [hl6, HEL.out], Lib.hid (by rw [htk]; exact HE.out.snoc y hlsn), Lib.hid (by rw [hl6]; exact ho5), Lib.hid (fun x hx => ?_), Lib.hid ?_⟩, by have := HLT.out; simp [intOf]; omega⟩
      · rcases List.mem_append.1 hx with hx | hx
        · exact ((HI.out x hx).later hb4').row hr5
        · rw [List.mem_singleton.1 hx]; exact hnew.row hr5
      · exact HB.out.trans ((hb4'.mono HB.out.size).trans (hr5.below (B := w.heap.size) (fun m hm => (HO.out.lt m hm).1) (by have := HWS.out; simp; omega)))
    · have d1 : decide ((k : Int) < (n : Int)) = false := decide_eq_false (by omega)
      have d1' : decide (k < n) = false := decide_eq_false hlt
      have hkn : k = n := by omega
      have HKN := Lib.hid hkn
      clear hk hlt hkn
      go_wp2
      go_ret
      exact ⟨A5, c5, el, rfl, by have := HE.out; rw [HKN.out, ← HN.out, List.take_length] at this; exact this, HO.out, HI.out, HB.out⟩
end
end Go.Proofs.Yteggcehjpfmikaa.Wal
namespace Go.Proofs.Yteggcehjpfmikaa.Wal
open Go.ChangeShapes Go.WideShapes Go.ChangeAt Go.RowKit Go.IntWalk Go.Proofs.Mem Go.Proofs.Each Law Go.Proofs.Yteggcehjpfmikaa.Disk Strip Rec
set_option linter.unusedVariables false
set_option linter.unusedSimpArgs false
theorem ent_cells {W : World} {B : Nat} {A : Option Addr} {c : Nat} {el : List Ent} (h : SS cEnt 13 W B (.slice A el.length c) el) {k : Nat} {x : Ent} (hx : el[k]? = some x) :
    ∃ b o, A = some ⟨b, o, none⟩ ∧ b < B ∧ ∀ j u, (cEnt x)[j]? = some u → W.cell? ⟨b, o + k * 13 + j, none⟩ = some u := by
  obtain ⟨A', c', e, _, _, h5⟩ := h
  injection e with e1 e2 e3
  subst e1
  exact h5 k x hx
set_option maxRecDepth 100000 in
set_option maxHeartbeats 16000000 in
theorem same_entries (w : World) (A1 A2 : Option Addr) (c1 c2 : Nat) (l1 l2 : List Ent) (h1 : SS cEnt 13 w w.heap.size (.slice A1 l1.length c1) l1) (h2 : SS cEnt 13 w w.heap.size (.slice A2 l2.length c2) l2) (i1 : ∀ x ∈ l1, RcIn w w.heap.size x.r x.va x.vb x.vt x.vd) (i2 : ∀ x ∈ l2, RcIn w w.heap.size x.r x.va x.vb x.vt x.vd) (ok : ∀ x ∈ l1, x.r.Ok) (hr : l1.map (·.r) = l2.map (·.r)) (hl : l1.map (·.lsn) = l2.map (·.lsn)) (hn : l1.length ≤ 4000) :
    Calls Try.prog 18 #[.slice A1 l1.length c1, .slice A2 l2.length c2] w fun e w' => e = .returned (.bool true) ∧ Below w.heap.size w w' := by
  have hlen : l1.length = l2.length := by have := congrArg List.length hr; simpa using this
  obtain ⟨n, hnn⟩ : ∃ n, l1.length = n := ⟨_, rfl⟩
  have hn2 : l2.length = n := by omega
  have AT := Lib.hid (fun (k : Nat) (hk : k < n) => (by
    have a1 : l1[k]? = some (l1[k]'(by omega)) := List.getElem?_eq_getElem _
    have a2 : l2[k]? = some (l2[k]'(by omega)) := List.getElem?_eq_getElem _
    refine ⟨_, _, a1, a2, ?_, ?_⟩
    · have := congrArg (·[k]?) hr
      simp only [List.getElem?_map, a1, a2, Option.map_some] at this
      exact Option.some.inj this
    · have := congrArg (·[k]?) hl
      simp only [List.getElem?_map, a1, a2, Option.map_some] at this
      exact Option.some.inj this : ∃ x y, l1[k]? = some x ∧ l2[k]? = some y ∧ x.r = y.r ∧ x.lsn = y.lsn))
  have C1 := Lib.hid (fun (W : World) (hb : Below w.heap.size w W) (k : Nat) (x : Ent) (hx : l1[k]? = some x) => (by
    obtain ⟨b, o, e, hbb, hc⟩ := ent_cells h1 hx
    exact ⟨b, o, e, fun j u hu => (hb.cell (p := ⟨b, o + k * 13 + j, none⟩) hbb).trans (hc j u hu)⟩ : ∃ b o, A1 = some ⟨b, o, none⟩ ∧ ∀ j u, (cEnt x)[j]? = some u → W.cell? ⟨b, o + k * 13 + j, none⟩ = some u))
  have C2 := Lib.hid (fun (W : World) (hb : Below w.heap.size w W) (k : Nat) (x : Ent) (hx : l2[k]? = some x) => (by
    obtain ⟨b, o, e, hbb, hc⟩ := ent_cells h2 hx
    exact ⟨b, o, e, fun j u hu => (hb.cell (p := ⟨b, o + k * 13 + j, none⟩) hbb).trans (hc j u hu)⟩ : ∃ b o, A2 = some ⟨b, o, none⟩ ∧ ∀ j u, (cEnt x)[j]? = some u → W.cell? ⟨b, o + k * 13 + j, none⟩ = some u))
  have CS := Lib.hid (fun (W : World) (hb : Below w.heap.size w W) (k : Nat) (x y : Ent) (hx : l1[k]? = some x) (hy : l2[k]? = some y) (e : x.r = y.r) => (by
    have ha := (i1 x (List.mem_of_getElem? hx)).below hb
    have hc := (i2 y (List.mem_of_getElem? hy)).below hb
    have ho := ok x (List.mem_of_getElem? hx)
    exact (same_any_rc x.r y.r ho (e ▸ ho) _ _ _ _ _ _ _ _ W w.heap.size hb.size ha hc).mono (fun er w' ⟨q, h1, h2, h3⟩ => ⟨by rw [h1, h2.2 e], h3⟩) : Calls Try.prog 21 #[.agg (rcV x.r x.va x.vb x.vt x.vd), .agg (rcV y.r y.va y.vb y.vt y.vd)] W fun er w' => er = .returned (.bool true) ∧ Below W.heap.size W w'))
  rw [hnn] at hn ⊢
  rw [hn2]
  have HN := Lib.hid hn
  have HW := Lib.hid (Below.refl w.heap.size w)
  clear h1 h2 i1 i2 ok hr hl hlen hnn hn2 hn
  go_enter Try.func18, Try.ntmps18
  go_wp2
  go_loopw [5, 6] (fun s5 _ wr => ∃ k : Nat, s5 = .int .i64 k ∧ k ≤ n ∧ Hid (Below w.heap.size w wr)) (fun s5 _ _ => n - (intOf s5).toNat)
  case atStart => exact ⟨0, rfl, Nat.zero_le _, HW⟩
  case round =>
    obtain ⟨k, rfl, hk, HB⟩ := hrel
    obtain ⟨wa, rfl⟩ : ∃ wa, wa = wr := ⟨wr, rfl⟩
    by_cases hlt : k < n
    · have d1 : decide ((k : Int) < (n : Int)) = true := decide_eq_true (by omega)
      have d1' : decide (k < n) = true := decide_eq_true hlt
      have a0 : (0 : Int) ≤ (k : Int) := by omega
      have a1 : (k : Int) < (n : Int) := by omega
      have p3 : IntKind.i64.wrap ((k : Int) + 1) = (k : Int) + 1 := IntWalk.i64_in _ (by have := HN.out; omega)
      obtain ⟨x, y, hx, hy, er, el⟩ := AT.out k hlt
      have HD := Lib.hid (show Below w.heap.size w wa.drew from HB.out.drew)
      have CSd := Lib.hid (CS.out _ HD.out k x y hx hy er)
      obtain ⟨b1, o1, rfl, m1⟩ := C1.out wa.drew HD.out k x hx
      obtain ⟨b2, o2, rfl, m2⟩ := C2.out wa.drew HD.out k y hy
      have HX := Lib.hid hx
      have HY := Lib.hid hy
      have HEL := Lib.hid el
      have HLT := Lib.hid hlt
      have SK := Lib.hid (fun W (hb : Below w.heap.size w W) => (by
        obtain ⟨b1', o1', e1, m1⟩ := C1.out W hb k x HX.out
        obtain ⟨b2', o2', e2, m2⟩ := C2.out W hb k y HY.out
        injection e1 with e1
        injection e2 with e2
        injection e1 with g1 g2
        injection e2 with g3 g4
        subst g1 g2 g3 g4
        exact ⟨m1 1 _ rfl, m1 2 _ rfl, m1 3 _ rfl, m1 4 _ rfl, m1 5 _ rfl, m1 6 _ rfl, m1 7 _ rfl, m1 8 _ rfl, m1 9 _ rfl, m1 10 _ rfl, m1 11 _ rfl, m1 12 _ rfl, m2 1 _ rfl, m2 2 _ rfl, m2 3 _ rfl, m2 4 _ rfl, m2 5 _ rfl, m2 6 _ rfl, m2 7 _ rfl, m2 8 _ rfl, m2 9 _ rfl, m2 10 _ rfl, m2 11 _ rfl, m2 12 _ rfl⟩ : W.cell? ⟨b1, o1 + k * 13 + 1, none⟩ = some (.int .u8 x.r.k) ∧ W.cell? ⟨b1, o1 + k * 13 + 1 + 1, none⟩ = some (.int .u32 x.r.t) ∧ W.cell? ⟨b1, o1 + k * 13 + 1 + 2, none⟩ = some (.int .u64 x.r.p) ∧ W.cell? ⟨b1, o1 + k * 13 + 1 + 3, none⟩ = some (.int .u64 x.r.n) ∧ W.cell? ⟨b1, o1 + k * 13 + 1 + 4, none⟩ = some (.int .u32 x.r.c.pg) ∧ W.cell? ⟨b1, o1 + k * 13 + 1 + 5, none⟩ = some (.int .u16 x.r.c.sl) ∧ W.cell? ⟨b1, o1 + k * 13 + 1 + 6, none⟩ = some (.bool x.r.c.had) ∧ W.cell? ⟨b1, o1 + k * 13 + 1 + 7, none⟩ = some (.bool x.r.c.has) ∧ W.cell? ⟨b1, o1 + k * 13 + 1 + 8, none⟩ = some (x.va) ∧ W.cell? ⟨b1, o1 + k * 13 + 1 + 9, none⟩ = some (x.vb) ∧ W.cell? ⟨b1, o1 + k * 13 + 1 + 10, none⟩ = some (x.vt) ∧ W.cell? ⟨b1, o1 + k * 13 + 1 + 11, none⟩ = some (x.vd) ∧ W.cell? ⟨b2, o2 + k * 13 + 1, none⟩ = some (.int .u8 y.r.k) ∧ W.cell? ⟨b2, o2 + k * 13 + 1 + 1, none⟩ = some (.int .u32 y.r.t) ∧ W.cell? ⟨b2, o2 + k * 13 + 1 + 2, none⟩ = some (.int .u64 y.r.p) ∧ W.cell? ⟨b2, o2 + k * 13 + 1 + 3, none⟩ = some (.int .u64 y.r.n) ∧ W.cell? ⟨b2, o2 + k * 13 + 1 + 4, none⟩ = some (.int .u32 y.r.c.pg) ∧ W.cell? ⟨b2, o2 + k * 13 + 1 + 5, none⟩ = some (.int .u16 y.r.c.sl) ∧ W.cell? ⟨b2, o2 + k * 13 + 1 + 6, none⟩ = some (.bool y.r.c.had) ∧ W.cell? ⟨b2, o2 + k * 13 + 1 + 7, none⟩ = some (.bool y.r.c.has) ∧ W.cell? ⟨b2, o2 + k * 13 + 1 + 8, none⟩ = some (y.va) ∧ W.cell? ⟨b2, o2 + k * 13 + 1 + 9, none⟩ = some (y.vb) ∧ W.cell? ⟨b2, o2 + k * 13 + 1 + 10, none⟩ = some (y.vt) ∧ W.cell? ⟨b2, o2 + k * 13 + 1 + 11, none⟩ = some (y.vd)))
      have SL := Lib.hid (fun W (hb : Below w.heap.size w W) => (by
        obtain ⟨b1', o1', e1, m1⟩ := C1.out W hb k x HX.out
        obtain ⟨b2', o2', e2, m2⟩ := C2.out W hb k y HY.out
        injection e1 with e1
        injection e2 with e2
        injection e1 with g1 g2
        injection e2 with g3 g4
        subst g1 g2 g3 g4
        exact ⟨m1 0 _ rfl, (m2 0 _ rfl).trans (by rw [HEL.out])⟩ : W.cell? ⟨b1, o1 + k * 13, none⟩ = some (.int .u64 x.lsn) ∧ W.cell? ⟨b2, o2 + k * 13, none⟩ = some (.int .u64 x.lsn)))
      have K0 := Lib.hid (SK.out _ HD.out)
      clear m1 m2 hx hy er el hk hlt
      go_wp2_with fail
      go_region_held3 (fun W => W.cell? ⟨b1, o1 + k * 13 + 1, none⟩ = some (.int .u8 x.r.k) ∧ W.cell? ⟨b1, o1 + k * 13 + 1 + 1, none⟩ = some (.int .u32 x.r.t) ∧ W.cell? ⟨b1, o1 + k * 13 + 1 + 2, none⟩ = some (.int .u64 x.r.p) ∧ W.cell? ⟨b1, o1 + k * 13 + 1 + 3, none⟩ = some (.int .u64 x.r.n) ∧ W.cell? ⟨b1, o1 + k * 13 + 1 + 4, none⟩ = some (.int .u32 x.r.c.pg) ∧ W.cell? ⟨b1, o1 + k * 13 + 1 + 5, none⟩ = some (.int .u16 x.r.c.sl) ∧ W.cell? ⟨b1, o1 + k * 13 + 1 + 6, none⟩ = some (.bool x.r.c.had) ∧ W.cell? ⟨b1, o1 + k * 13 + 1 + 7, none⟩ = some (.bool x.r.c.has) ∧ W.cell? ⟨b1, o1 + k * 13 + 1 + 8, none⟩ = some (x.va) ∧ W.cell? ⟨b1, o1 + k * 13 + 1 + 9, none⟩ = some (x.vb) ∧ W.cell? ⟨b1, o1 + k * 13 + 1 + 10, none⟩ = some (x.vt) ∧ W.cell? ⟨b1, o1 + k * 13 + 1 + 11, none⟩ = some (x.vd) ∧ W.cell? ⟨b2, o2 + k * 13 + 1, none⟩ = some (.int .u8 y.r.k) ∧ W.cell? ⟨b2, o2 + k * 13 + 1 + 1, none⟩ = some (.int .u32 y.r.t) ∧ W.cell? ⟨b2, o2 + k * 13 + 1 + 2, none⟩ = some (.int .u64 y.r.p) ∧ W.cell? ⟨b2, o2 + k * 13 + 1 + 3, none⟩ = some (.int .u64 y.r.n) ∧ W.cell? ⟨b2, o2 + k * 13 + 1 + 4, none⟩ = some (.int .u32 y.r.c.pg) ∧ W.cell? ⟨b2, o2 + k * 13 + 1 + 5, none⟩ = some (.int .u16 y.r.c.sl) ∧ W.cell? ⟨b2, o2 + k * 13 + 1 + 6, none⟩ = some (.bool y.r.c.had) ∧ W.cell? ⟨b2, o2 + k * 13 + 1 + 7, none⟩ = some (.bool y.r.c.has) ∧ W.cell? ⟨b2, o2 + k * 13 + 1 + 8, none⟩ = some (y.va) ∧ W.cell? ⟨b2, o2 + k * 13 + 1 + 9, none⟩ = some (y.vb) ∧ W.cell? ⟨b2, o2 + k * 13 + 1 + 10, none⟩ = some (y.vt) ∧ W.cell? ⟨b2, o2 + k * 13 + 1 + 11, none⟩ = some (y.vd))
        (first | with_reducible exact K0.out | with_reducible exact K1.out | (go_split_ands; first | with_reducible exact K0.out | with_reducible exact K1.out))
        (first
        | (go_at_call 21; (with_reducible refine CSd.out.mono ?_); rintro er w3 ⟨rfl, hb3⟩; have HB3 := Lib.hid (HD.out.trans (hb3.mono HD.out.size)); have K1 := Lib.hid (SK.out _ HB3.out); clear hb3))
      have HD3 := Lib.hid (show Below w.heap.size w w3.drew from HB3.out.drew)
      have L0 := Lib.hid (SL.out _ HD3.out)
      go_wp2_with fail
      go_region_held3 (fun W => W.cell? ⟨b1, o1 + k * 13, none⟩ = some (.int .u64 x.lsn) ∧ W.cell? ⟨b2, o2 + k * 13, none⟩ = some (.int .u64 x.lsn))
        (first | with_reducible exact L0.out | (go_split_ands; first | with_reducible exact L0.out))
        (fail)
      all_goals go_wp2
      all_goals trace_state
      all_goals exact ⟨⟨k + 1, by rfl, by have := HLT.out; omega, HD3⟩, by have := HLT.out; simp [intOf]; omega⟩
    · have d1 : decide ((k : Int) < (n : Int)) = false := decide_eq_false (by omega)
      have d1' : decide (k < n) = false := decide_eq_false hlt
      clear hk hlt
      go_wp2
      go_ret
      exact ⟨rfl, HB.out⟩
end Go.Proofs.Yteggcehjpfmikaa.Wal
