import Derived.Test.YtneaehimdmachaaRm2
import Derived.Test.YtneaehimdmachaaRm3
import Derived.Test.YtneaehimdmachaaRm4
import Derived.Test.YtneaehimdmachaaRm5
import Derived.Test.YtneaehimdmachaaRm6
import Derived.Test.YtneaehimdmachaaRm7
import Derived.Test.YtneaehimdmachaaRmB
import Derived.Test.YtneaehimdmachaaRmH
import Derived.Test.YtneaehimdmachaaRmI
import Derived.Test.YtneaehimdmachaaRmK
import Derived.Test.YtneaehimdmachaaRmL
import Derived.BigQuiet
import Derived.Deep.RegionHeld3
namespace Go.Proofs.Ytneaehimdmachaa.Rule
open Go.ChangeShapes Go.WideShapes Go.ChangeAt Go.RowKit Go.IntWalk Go.Proofs.Mem Go.Proofs.Each
set_option linter.unusedVariables false
set_option linter.unusedSimpArgs false
theorem do_all (w : World) (g : Nat) (q : Ot) (v : Value) (base i : Nat) (p : Value) (l : List Pu) (seen : List Ce) (hst : St w g q v base i p l) (beg : Begin w g q v base p seen) (hl : l.length ≤ 700) (hi : i ≤ 700000) (hk : 1 ≤ q.kd ∧ q.kd ≤ 18) :
    Calls Try.prog 33 #[.pointer (some ⟨g, 0, none⟩)] w (Did w g q v base i p l seen (oDo q) Rp.enc) := by
  refine do_of w g q v base i p l seen (oDo q) hst beg hk fun W h1 h2 h3 => ?_
  have hkd : q.kd = 1 ∨ q.kd = 2 ∨ q.kd = 3 ∨ q.kd = 4 ∨ q.kd = 5 ∨ q.kd = 6 ∨ q.kd = 7 ∨ q.kd = 8 ∨ q.kd = 9 ∨ q.kd = 10 ∨ q.kd = 11 ∨ q.kd = 12 ∨ q.kd = 13 ∨ q.kd = 14 ∨ q.kd = 15 ∨ q.kd = 16 ∨ q.kd = 17 ∨ q.kd = 18 := by omega
  rcases hkd with hk | hk | hk | hk | hk | hk | hk | hk | hk | hk | hk | hk | hk | hk | hk | hk | hk | hk
  · rw [show oDo q = oOpen q by simp [oDo, hk], show opFn q.kd = 36 by rw [hk]; rfl]; exact open_any W g q v base i p l seen h1 h3 beg.hg (Nat.le_trans beg.hbase h2) (by omega) (by omega) beg.hq beg.hok
  · rw [show oDo q = oMint q by simp [oDo, hk], show opFn q.kd = 37 by rw [hk]; rfl]; exact mint_all W g q v base i p l seen h1 h3 beg.hg (Nat.le_trans beg.hbase h2) (by omega) (by omega) beg.hq beg.hok
  · rw [show oDo q = oMint q by simp [oDo, hk], show opFn q.kd = 37 by rw [hk]; rfl]; exact mint_all W g q v base i p l seen h1 h3 beg.hg (Nat.le_trans beg.hbase h2) (by omega) (by omega) beg.hq beg.hok
  · rw [show oDo q = oCreate q by simp [oDo, hk], show opFn q.kd = 38 by rw [hk]; rfl]; exact create_all W g q v base i p l seen h1 h3 beg.hg (Nat.le_trans beg.hbase h2) (by omega) (by omega) beg.hq beg.hok
  · rw [show oDo q = oCreate q by simp [oDo, hk], show opFn q.kd = 38 by rw [hk]; rfl]; exact create_all W g q v base i p l seen h1 h3 beg.hg (Nat.le_trans beg.hbase h2) (by omega) (by omega) beg.hq beg.hok
  · rw [show oDo q = oDeposit q by simp [oDo, hk], show opFn q.kd = 39 by rw [hk]; rfl]; exact deposit_all W g q v base i p l seen h1 h3 beg.hg (Nat.le_trans beg.hbase h2) (by omega) (by omega) beg.hq beg.hok
  · rw [show oDo q = oDeposit q by simp [oDo, hk], show opFn q.kd = 39 by rw [hk]; rfl]; exact deposit_all W g q v base i p l seen h1 h3 beg.hg (Nat.le_trans beg.hbase h2) (by omega) (by omega) beg.hq beg.hok
  · rw [show oDo q = oPay q by simp [oDo, hk], show opFn q.kd = 40 by rw [hk]; rfl]; exact pay_any W g q v base i p l seen h1 h3 beg.hg (Nat.le_trans beg.hbase h2) (by omega) (by omega) beg.hq beg.hok
  · rw [show oDo q = oGive q by simp [oDo, hk], show opFn q.kd = 41 by rw [hk]; rfl]; exact give_any W g q v base i p l seen h1 h3 beg.hg (Nat.le_trans beg.hbase h2) (by omega) (by omega) beg.hq beg.hok
  · rw [show oDo q = oCraft q by simp [oDo, hk], show opFn q.kd = 42 by rw [hk]; rfl]; exact craft_all W g q v base i p l seen h1 h3 beg.hg (Nat.le_trans beg.hbase h2) (by omega) (by omega) beg.hq beg.hok
  · rw [show oDo q = oTrade q by simp [oDo, hk], show opFn q.kd = 43 by rw [hk]; rfl]; exact trade_all W g q v base i p l seen h1 h3 beg.hg (Nat.le_trans beg.hbase h2) (by omega) (by omega) beg.hq beg.hok
  · rw [show oDo q = oOffer q by simp [oDo, hk], show opFn q.kd = 44 by rw [hk]; rfl]; exact offer_all W g q v base i p l seen h1 h3 beg.hg (Nat.le_trans beg.hbase h2) (by omega) (by omega) beg.hq beg.hok
  · rw [show oDo q = oAgree q by simp [oDo, hk], show opFn q.kd = 45 by rw [hk]; rfl]; exact agree_all W g q v base i p l seen h1 h3 beg.hg (Nat.le_trans beg.hbase h2) (by omega) (by omega) beg.hq beg.hok
  · rw [show oDo q = oBreak q by simp [oDo, hk], show opFn q.kd = 46 by rw [hk]; rfl]; exact break_all W g q v base i p l seen h1 h3 beg.hg (Nat.le_trans beg.hbase h2) (by omega) (by omega) beg.hq beg.hok
  · rw [show oDo q = oSell q by simp [oDo, hk], show opFn q.kd = 47 by rw [hk]; rfl]; exact sell_all W g q v base i p l seen h1 h3 beg.hg (Nat.le_trans beg.hbase h2) (by omega) (by omega) beg.hq beg.hok
  · rw [show oDo q = oBid q by simp [oDo, hk], show opFn q.kd = 48 by rw [hk]; rfl]; exact bid_all W g q v base i p l seen h1 h3 beg.hg (Nat.le_trans beg.hbase h2) (by omega) (by omega) beg.hq beg.hok
  · rw [show oDo q = oClose q by simp [oDo, hk], show opFn q.kd = 49 by rw [hk]; rfl]; exact close_all W g q v base i p l seen h1 h3 beg.hg (Nat.le_trans beg.hbase h2) (by omega) (by omega) beg.hq beg.hok
  · rw [show oDo q = oLookAt q by simp [oDo, hk], show opFn q.kd = 50 by rw [hk]; rfl]; exact lookAt_any W g q v base i p l seen h1 h3 beg.hg (Nat.le_trans beg.hbase h2) (by omega) (by omega) beg.hq beg.hok
end Go.Proofs.Ytneaehimdmachaa.Rule
namespace Go.Proofs.Ytneaehimdmachaa.Rule
open Go.ChangeShapes Go.WideShapes Go.ChangeAt Go.RowKit Go.IntWalk Go.Proofs.Mem
set_option linter.unusedVariables false
set_option linter.unusedSimpArgs false
set_option maxRecDepth 100000 in
set_option maxHeartbeats 4000000 in
theorem next_ex (w : World) (kd wh wm wt id n pr : Int) (v : Value) (e a b c k x y : Int) (q : Bool) (P : Value → World → Prop)
    (h : ∀ W, Below w.heap.size w W → RunEx #[.int .u8 kd, .int .u32 wh, .int .u32 wm, .int .u32 wt, .int .u32 id, .int .u64 n, .int .u64 pr] v W e a b c k x y q P) :
    Calls Try.prog 29 #[.agg #[.int .u8 kd, .int .u32 wh, .int .u32 wm, .int .u32 wt, .int .u32 id, .int .u64 n, .int .u64 pr], v] w fun en w' => en = .returned (.tuple #[.agg #[.int .u8 k, .int .u32 x, .int .u32 y], .bool q]) ∧ Below w.heap.size w w' := by
  unfold RunEx outc at h
  have H := Lib.hid (h _ (new_ (new_ (Below.refl w.heap.size w) (.cells #[.int .u8 kd, .int .u32 wh, .int .u32 wm, .int .u32 wt, .int .u32 id, .int .u64 n, .int .u64 pr] 32)) (.cells #[.int .u8 0, .int .u32 0, .int .u32 0] 24)))
  clear h
  go_enter Try.func29, Try.ntmps29
  go_wp2_with (go_at_call 30; (with_reducible refine H.out.mono ?_); rintro en w1 ⟨A, l, cc, rfl, _, hb1⟩; have HB1 := Lib.hid hb1; have hz1 := hb1.size; clear hb1)
  obtain ⟨W2, hW2⟩ : ∃ W2, w1.alloc (.cells #[.slice A l cc, .int .u16 e, .int .u64 a, .int .u64 b, .int .u64 c, .int .u8 k, .int .u32 x, .int .u32 y, .bool q] 57) = W2 := ⟨_, rfl⟩
  have ob : Box W2 w1.heap.size #[.slice A l cc, .int .u16 e, .int .u64 a, .int .u64 b, .int .u64 c, .int .u8 k, .int .u32 x, .int .u32 y, .bool q] 57 := by rw [← hW2]; exact Box.new _ _ _
  have rb : Box W2 (w.heap.size + 1) #[.int .u8 0, .int .u32 0, .int .u32 0] 24 := by
    rw [← hW2]
    have := Box.new (w.alloc (.cells #[.int .u8 kd, .int .u32 wh, .int .u32 wm, .int .u32 wt, .int .u32 id, .int .u64 n, .int .u64 pr] 32)) #[.int .u8 0, .int .u32 0, .int .u32 0] 24
    rw [World.size_alloc] at this
    exact (this.later HB1.out).alloc _
  have hb3 := Lib.hid (show Below w.heap.size w W2 by rw [← hW2]; exact new_ ((new_ (new_ (Below.refl w.heap.size w) _) _).trans (HB1.out.mono (by simp; omega))) _)
  obtain ⟨o0, o1, o2, o3, o4, o5, o6, o7, o8⟩ := oc_of (hbx := ob)
  have r0 := rb.cell 0
  have r1 := rb.cell 1
  have r2 := rb.cell 2
  have f0 := rb.frozen 0
  have f1 := rb.frozen 1
  have f2 := rb.frozen 2
  simp only [List.getElem?_toArray, List.getElem?_cons_zero, List.getElem?_cons_succ] at r0 r1 r2
  have RB := Lib.hid rb
  rw [hW2]
  clear ob rb hW2 hz1
  go_region
  all_goals
    go_wp2
    generalize hW : (World.setCell _ (⟨w.heap.size + 1, 2, none⟩ : Addr) _) = W9
    have hb9 : Box W9 (w.heap.size + 1) #[.int .u8 k, .int .u32 x, .int .u32 y] 24 := by rw [← hW]; exact (((RB.out.set_ 0 _).set_ 1 _).set_ 2 _)
    have hf9 : Fr (fun k => k = w.heap.size + 1) W2 W9 := by rw [← hW]; exact ((((Fr.refl (fun k => k = w.heap.size + 1) W2).setCell (p := ⟨w.heap.size + 1, 0, none⟩) (.inl rfl) _).setCell (p := ⟨w.heap.size + 1, 1, none⟩) (.inl rfl) _).setCell (p := ⟨w.heap.size + 1, 2, none⟩) (.inl rfl) _)
    have t0 := hb9.cell 0
    have t1 := hb9.cell 1
    have t2 := hb9.cell 2
    simp only [List.getElem?_toArray, List.getElem?_cons_zero, List.getElem?_cons_succ] at t0 t1 t2
    clear hW
    refine bodyPost_ret (v := .tuple #[.agg #[.int .u8 k, .int .u32 x, .int .u32 y], .bool q]) (by simp [results, Try.results29, go_sem, t0, t1, t2]; try rfl) rfl ?_
    exact ⟨rfl, Below.drew (hb3.out.trans (hf9.to_below (fun k hk => by rw [hk]; omega) hb3.out.size))⟩
set_option maxRecDepth 100000 in
set_option maxHeartbeats 4000000 in
theorem do_wait (w : World) (kd wh wm wt id n pr : Int) (v : Value) (e a b c k x y : Int) (P : Value → World → Prop)
    (h : ∀ W, Below w.heap.size w W → RunEx #[.int .u8 kd, .int .u32 wh, .int .u32 wm, .int .u32 wt, .int .u32 id, .int .u64 n, .int .u64 pr] v W e a b c k x y true P) :
    Calls Try.prog 27 #[.agg #[.int .u8 kd, .int .u32 wh, .int .u32 wm, .int .u32 wt, .int .u32 id, .int .u64 n, .int .u64 pr], v] w fun en w' => en = .returned (.tuple #[.slice none 0 0, .agg #[.int .u16 1, .int .u64 0, .int .u64 0, .int .u64 0]]) ∧ Below w.heap.size w w' := by
  unfold RunEx outc at h
  have H := Lib.hid (h _ (new_ (new_ (Below.refl w.heap.size w) (.cells #[.int .u8 kd, .int .u32 wh, .int .u32 wm, .int .u32 wt, .int .u32 id, .int .u64 n, .int .u64 pr] 32)) (.cells #[.int .u16 0, .int .u64 0, .int .u64 0, .int .u64 0] 41)))
  clear h
  go_enter Try.func27, Try.ntmps27
  go_wp2_with (go_at_call 30; (with_reducible refine H.out.mono ?_); rintro en w1 ⟨A, l, cc, rfl, _, hb1⟩
               have rb := Box.new (w.alloc (.cells #[.int .u8 kd, .int .u32 wh, .int .u32 wm, .int .u32 wt, .int .u32 id, .int .u64 n, .int .u64 pr] 32)) #[.int .u16 0, .int .u64 0, .int .u64 0, .int .u64 0] 41
               rw [World.size_alloc] at rb
               have rb1 := rb.later hb1
               have RB := Lib.hid rb1
               have r0 := rb1.cell 0
               have r1 := rb1.cell 1
               have r2 := rb1.cell 2
               have r3 := rb1.cell 3
               have f0 := rb1.frozen 0
               have f1 := rb1.frozen 1
               have f2 := rb1.frozen 2
               have f3 := rb1.frozen 3
               simp only [List.getElem?_toArray, List.getElem?_cons_zero, List.getElem?_cons_succ] at r0 r1 r2 r3
               have HB1 := Lib.hid hb1
               have hz1 : w.heap.size + 1 < w1.heap.size := by have := hb1.size; simp at this; omega
               clear hb1 rb rb1)
  generalize hW : (World.setCell _ (⟨w.heap.size + 1, 3, none⟩ : Addr) _) = W9
  have hb9 : Box W9 (w.heap.size + 1) #[.int .u16 1, .int .u64 0, .int .u64 0, .int .u64 0] 41 := by rw [← hW]; exact ((((RB.out.set_ 0 _).set_ 1 _).set_ 2 _).set_ 3 _)
  have hf9 : Fr (fun k => k = w.heap.size + 1) w1 W9 := by rw [← hW]; exact (((((Fr.refl (fun k => k = w.heap.size + 1) w1).setCell (p := ⟨w.heap.size + 1, 0, none⟩) (.inl rfl) _).setCell (p := ⟨w.heap.size + 1, 1, none⟩) (.inl rfl) _).setCell (p := ⟨w.heap.size + 1, 2, none⟩) (.inl rfl) _).setCell (p := ⟨w.heap.size + 1, 3, none⟩) (.inl rfl) _)
  have hb3 := Lib.hid ((new_ (new_ (Below.refl w.heap.size w) _) _).trans (HB1.out.mono (by simp; omega)))
  clear hW
  generalize hX : World.alloc _ _ = W10
  have hb10 : Box W10 (w.heap.size + 1) #[.int .u16 1, .int .u64 0, .int .u64 0, .int .u64 0] 41 := by rw [← hX]; exact hb9.alloc _
  have hf10 : Fr (fun k => k = w.heap.size + 1) w1 W10 := by rw [← hX]; exact hf9.alloc _
  have t0 := hb10.cell 0
  have t1 := hb10.cell 1
  have t2 := hb10.cell 2
  have t3 := hb10.cell 3
  simp only [List.getElem?_toArray, List.getElem?_cons_zero, List.getElem?_cons_succ] at t0 t1 t2 t3
  clear hX
  refine bodyPost_ret (v := .tuple #[.slice none 0 0, .agg #[.int .u16 1, .int .u64 0, .int .u64 0, .int .u64 0]]) (by simp [results, Try.results27, go_sem, t0, t1, t2, t3]; try rfl) rfl ?_
  exact ⟨rfl, hb3.out.trans (hf10.to_below (fun k hk => by rw [hk]; omega) hb3.out.size)⟩
theorem RunIs.ex {op : Array Value} {v : Value} {w : World} {e a b c k x y : Int} {q : Bool} {P : Value → World → Prop} (h : RunIs op v w none 0 0 e a b c k x y q (fun _ => True)) (hP : ∀ W, P (.slice none 0 0) W) : RunEx op v w e a b c k x y q P :=
  h.mono fun en w' ⟨h1, _, h3⟩ => ⟨none, 0, 0, h1, hP _, h3⟩
def RunQ (q : Ot) (v : Value) (W : World) (seen : List Ce) : Prop := match runOm seen (oAll q) 0 [] with
  | .miss k a b => RunEx q.cells v W 0 0 0 0 k a b true (fun p _ => p = .slice none 0 0)
  | .err e => RunEx q.cells v W e 0 0 0 0 0 0 false (fun p _ => p = .slice none 0 0)
  | .ok y j => RunEx q.cells v W 0 y.1.A y.1.B y.1.C 0 0 0 false (fun p W' => W'.ownsRow (W.heap.size + 3) 51 6 p y.2.length (putCells y.2))
theorem run_q (q : Ot) (hq : q.Ok) (W : World) (A : Option Addr) (l c : Nat) (seen : List Ce) (hs : SeenAt W W.heap.size (.slice A l c) seen) (hok : ∀ c ∈ seen, c.Ok) : RunQ q (.slice A l c) W seen := by
  have hck : CkIs q (.slice A l c) (ckE q) := fun W g h => check_any W g q hq _ 0 _ h
  have hdo : 1 ≤ q.kd ∧ q.kd ≤ 18 → DoIs W q (.slice A l c) (oDo q) seen := fun hk W' hw hb hz =>
    do_all W' (W.heap.size + 1 + 1) q (.slice A l c) (W.heap.size + 3) 0 (.slice none 0 0) [] seen ⟨hw, World.ownsRow_nil _ _ _ _⟩
      ⟨(hs.below hb).more (by omega), by omega, hz, hq, hok, fun x hx => by cases hx⟩ (by simp) (by omega) hk
  obtain ⟨kd, wh, wm, wt, id, n, pr⟩ := q
  unfold RunQ oAll
  cases hc : ckE ⟨kd, wh, wm, wt, id, n, pr⟩ with
  | some e =>
    rw [hc] at hck
    exact (run_ck_err W kd wh wm wt id n pr A l c e hck).ex (fun _ => rfl)
  | none =>
    rw [hc] at hck
    by_cases hk : 1 ≤ kd ∧ kd ≤ 18
    · have hd := hdo hk
      cases hr : runOm seen (oDo ⟨kd, wh, wm, wt, id, n, pr⟩) 0 [] with
      | miss k a b => exact (run_do_miss W kd wh wm wt id n pr A l c _ seen k a b hr hck hd).ex (fun _ => rfl)
      | err e => exact (run_do_err W kd wh wm wt id n pr A l c _ seen e hr hck hd).ex (fun _ => rfl)
      | ok y j => exact run_do_ok W kd wh wm wt id n pr A l c _ seen y j hr hck hd
    · have h0 : wh ≠ 0 := fun e => by rw [e] at hc; simp [ckE] at hc
      have hkd := hq.kd
      dsimp only at hkd
      rw [show oDo ⟨kd, wh, wm, wt, id, n, pr⟩ = oErr 1 by
        unfold oDo
        simp only
        repeat (rw [if_neg (by omega)])]
      refine (run_none W kd wh wm wt id n pr A l c h0 (by omega)).mono fun en w' ⟨h1, h2⟩ => ⟨none, 0, 0, h1, rfl, h2⟩
theorem next_op (q : Ot) (hq : q.Ok) (w : World) (A : Option Addr) (l c : Nat) (seen : List Ce) (hs : SeenAt w w.heap.size (.slice A l c) seen) (hok : ∀ c ∈ seen, c.Ok) :
    Calls Try.prog 29 #[.agg q.cells, .slice A l c] w fun en w' => en = .returned (.tuple #[.agg #[.int .u8 (nOut (runOm seen (oAll q) 0 [])).1, .int .u32 (nOut (runOm seen (oAll q) 0 [])).2.1, .int .u32 (nOut (runOm seen (oAll q) 0 [])).2.2.1], .bool (nOut (runOm seen (oAll q) 0 [])).2.2.2]) ∧ Below w.heap.size w w' := by
  have H : ∀ W, Below w.heap.size w W → RunQ q (.slice A l c) W seen := fun W hb => run_q q hq W A l c seen ((hs.below hb).more hb.size) hok
  unfold RunQ at H
  obtain ⟨kd, wh, wm, wt, id, n, pr⟩ := q
  cases hr : runOm seen (oAll ⟨kd, wh, wm, wt, id, n, pr⟩) 0 [] with
  | miss k a b => rw [hr] at H; exact next_ex w kd wh wm wt id n pr _ _ _ _ _ _ _ _ _ _ H
  | err e => rw [hr] at H; exact next_ex w kd wh wm wt id n pr _ _ _ _ _ _ _ _ _ _ H
  | ok y j =>
    rw [hr] at H
    exact next_ex w kd wh wm wt id n pr _ _ _ _ _ _ _ _ _ (fun _ _ => True) (fun W hb => (H W hb).mono fun en w' ⟨A', l', c', h1, _, h3⟩ => ⟨A', l', c', h1, trivial, h3⟩)
theorem do_op (q : Ot) (hq : q.Ok) (w : World) (A : Option Addr) (l c : Nat) (seen : List Ce) (hs : SeenAt w w.heap.size (.slice A l c) seen) (hok : ∀ c ∈ seen, c.Ok) :
    Calls Try.prog 27 #[.agg q.cells, .slice A l c] w fun en w' => ∃ A' l' c', en = .returned (.tuple #[.slice A' l' c', .agg #[.int .u16 (dOut (runOm seen (oAll q) 0 [])).2.1, .int .u64 (dOut (runOm seen (oAll q) 0 [])).2.2.A, .int .u64 (dOut (runOm seen (oAll q) 0 [])).2.2.B, .int .u64 (dOut (runOm seen (oAll q) 0 [])).2.2.C]]) ∧
      w'.ownsRow w.heap.size 51 6 (.slice A' l' c') (dOut (runOm seen (oAll q) 0 [])).1.length (putCells (dOut (runOm seen (oAll q) 0 [])).1) ∧ Below w.heap.size w w' := by
  have H : ∀ W, Below w.heap.size w W → RunQ q (.slice A l c) W seen := fun W hb => run_q q hq W A l c seen ((hs.below hb).more hb.size) hok
  unfold RunQ at H
  obtain ⟨kd, wh, wm, wt, id, n, pr⟩ := q
  cases hr : runOm seen (oAll ⟨kd, wh, wm, wt, id, n, pr⟩) 0 [] with
  | miss k a b =>
    rw [hr] at H
    exact (do_wait w kd wh wm wt id n pr _ _ _ _ _ _ _ _ _ H).mono fun en w' ⟨h1, h2⟩ => ⟨none, 0, 0, h1, World.ownsRow_nil _ _ _ _, h2⟩
  | err e =>
    rw [hr] at H
    exact (do_done w kd wh wm wt id n pr _ _ _ _ _ _ _ _ _ H).mono fun en w' ⟨A', l', c', h1, h2, w1, h3, _⟩ => by
      rw [h3] at h1
      exact ⟨none, 0, 0, h1, World.ownsRow_nil _ _ _ _, h2⟩
  | ok y j =>
    rw [hr] at H
    exact (do_done w kd wh wm wt id n pr _ _ _ _ _ _ _ _ (fun p W' => W'.ownsRow (w.heap.size + 3) 51 6 p y.2.length (putCells y.2)) (fun W hb => (H W hb).mono fun en w' ⟨A', l', c', h1, h4, h3⟩ => ⟨A', l', c', h1, own_lower h4 (by have := hb.size; omega), h3⟩)).mono fun en w' ⟨A', l', c', h1, h2, w1, h3, _, h5⟩ =>
      ⟨A', l', c', h1, own_lower (own_frs h3 h5 (fun g hg e => by have := (h3.lt g hg).1; omega)) (by omega), h2⟩
end Go.Proofs.Ytneaehimdmachaa.Rule
namespace Go.Proofs.Ytneaehimdmachaa.Rule
open Go.ChangeShapes Go.WideShapes Go.ChangeAt Go.RowKit Go.IntWalk Go.Proofs.Mem
set_option linter.unusedVariables false
set_option linter.unusedSimpArgs false
theorem key_info : (Try.prog.info? 24).map (fun i => (i.zero, i.size, i.bytes)) = some (some (.agg #[.int .u8 0, .int .u32 0, .int .u32 0]), 3, 12) := by kernel_rfl
theorem cell_info : (Try.prog.info? 49).map (fun i => (i.zero, i.size, i.bytes)) = some (some (.agg #[.int .u8 0, .int .u32 0, .int .u32 0, .int .u64 0, .int .u64 0, .bool false]), 6, 40) := by kernel_rfl
def kyC (c : Ce) : List Value := [.int .u8 c.k, .int .u32 c.a, .int .u32 c.b]
theorem kyC_len (c : Ce) : (kyC c).length = 3 := rfl
theorem kyC_one (c : Ce) : ∀ u ∈ kyC c, u.oneCell' = true := fun u hu => by simp [kyC] at hu; rcases hu with rfl | rfl | rfl <;> rfl
theorem Ce.cells_len (c : Ce) : c.cells.length = 6 := rfl
theorem Ce.cells_one (c : Ce) : ∀ u ∈ c.cells, u.oneCell' = true := fun u hu => by simp [Ce.cells] at hu; rcases hu with rfl | rfl | rfl | rfl | rfl | rfl <;> rfl
theorem key_ways (a1 b1 a2 b2 a3 b3 : Int) : ((a1 = b1) = True ∧ (a2 = b2) = True ∧ (a3 = b3) = True) ∨ (a1 = b1) = False ∨ ((a1 = b1) = True ∧ (a2 = b2) = False) ∨ ((a1 = b1) = True ∧ (a2 = b2) = True ∧ (a3 = b3) = False) := by
  by_cases h1 : a1 = b1 <;> by_cases h2 : a2 = b2 <;> by_cases h3 : a3 = b3 <;> simp [h1, h2, h3]
theorem cell_ways (a1 b1 a2 b2 a3 b3 A B : Int) (is : Bool) (n l : Nat) : (((a1 = b1) = True ∧ (a2 = b2) = True ∧ (a3 = b3) = True ∧ (A = 0) = True ∧ (B = 0) = True) ∧ is = false ∧ n < l) ∨ (((a1 = b1) = True ∧ (a2 = b2) = True ∧ (a3 = b3) = True ∧ (A = 0) = True ∧ (B = 0) = True) ∧ is = false ∧ ¬ n < l) ∨ (((a1 = b1) = True ∧ (a2 = b2) = True ∧ (a3 = b3) = True ∧ (A = 0) = True ∧ (B = 0) = True) ∧ is = true) ∨
    (a1 = b1) = False ∨ ((a1 = b1) = True ∧ (a2 = b2) = False) ∨ ((a1 = b1) = True ∧ (a2 = b2) = True ∧ (a3 = b3) = False) ∨ ((a1 = b1) = True ∧ (a2 = b2) = True ∧ (a3 = b3) = True ∧ (A = 0) = False) ∨ ((a1 = b1) = True ∧ (a2 = b2) = True ∧ (a3 = b3) = True ∧ (A = 0) = True ∧ (B = 0) = False) := by
  by_cases h1 : a1 = b1
  case neg => simp [h1]
  by_cases h2 : a2 = b2
  case neg => simp [h1, h2]
  by_cases h3 : a3 = b3
  case neg => simp [h1, h2, h3]
  by_cases h4 : A = 0
  case neg => simp [h1, h2, h3, h4]
  by_cases h5 : B = 0 <;> by_cases h6 : n < l <;> cases is <;> simp [h1, h2, h3, h4, h5, h6]
structure LS (w : World) (q : Ot) (ks seen : List Ce) (kv sv : Value) (M : Int) (W : World) : Prop where
  bel : Below w.heap.size w W
  op : Box W w.heap.size #[.int .u8 q.kd, .int .u32 q.wh, .int .u32 q.wm, .int .u32 q.wt, .int .u32 q.id, .int .u64 q.n, .int .u64 q.pr] 32
  kr : W.ownsRow (w.heap.size + 1) 24 3 kv ks.length (ks.flatMap kyC)
  sr : W.ownsRow (w.heap.size + 1) 49 6 sv seen.length (seen.flatMap Ce.cells)
  len : ks.length = seen.length
  ok : ∀ c ∈ seen, c.Ok ∧ c.A ≤ M
  pre : ∀ n, n < seen.length → ∃ k a b, opR q (seen.take n) = .miss k a b
section
variable {w W W' : World} {q : Ot} {ks seen : List Ce} {kv sv : Value} {M : Int}
theorem LS.short (h : LS w q ks seen kv sv M W) : seen.length ≤ 12 := by
  rcases Nat.eq_zero_or_pos seen.length with h0 | h0
  · omega
  · obtain ⟨k, a, b, hm⟩ := h.pre (seen.length - 1) (by omega)
    have := miss_short hm
    rw [List.length_take] at this
    omega
theorem LS.later (h : LS w q ks seen kv sv M W) (hb : Below W.heap.size W W') : LS w q ks seen kv sv M W' :=
  ⟨h.bel.trans (hb.mono h.bel.size), h.op.later hb, own_below h.kr hb, own_below h.sr hb, h.len, h.ok, h.pre⟩
theorem LS.fr {g : Nat} (h : LS w q ks seen kv sv M W) (hf : Fr (fun x => x = g) W W') (hg : w.heap.size + 1 ≤ g) (hk : kv.ownBlock ≠ some g) (hs : sv.ownBlock ≠ some g) : LS w q ks seen kv sv M W' :=
  ⟨h.bel.trans (hf.to_below (fun k e => by omega) h.bel.size), h.op.fr hf (by omega), own_frs h.kr hf (fun x e e2 => hk (by rw [e, e2])), own_frs h.sr hf (fun x e e2 => hs (by rw [e, e2])), h.len, h.ok, h.pre⟩
theorem LS.lt (h : LS w q ks seen kv sv M W) : w.heap.size < W.heap.size := h.op.lt
theorem own_apart {w : World} {b b' s s' n n' : Nat} {e e' : TypeId} {u v : Value} {xs ys : List Value} (h : w.ownsRow b e s u n xs) (h' : w.ownsRow b' e' s' v n' ys) (he : e ≠ e') (k : Nat) (hu : u.ownBlock = some k) : v.ownBlock ≠ some k := by
  rcases h.2 with ⟨rfl, _⟩ | ⟨g, cap, cur, rfl, _, hg, _⟩
  · cases hu
  · injection hu with hu
    simp only at hu
    subst hu
    exact own_not_box h' (show Box w g cur e from hg) he
theorem LS.push (h : LS w q ks seen kv sv M W) {c d : Ce} {kv' sv' : Value} {Wa Wb Wc : World} (hb : Below W.heap.size W Wa) (tk : RowTo Wa Wb kv kv') (hk : Wb.ownsRow (w.heap.size + 1) 24 3 kv' (ks ++ [d]).length ((ks ++ [d]).flatMap kyC))
    (hb2 : Below Wb.heap.size Wb Wc) (ts : RowTo Wc W' sv sv') (hs : W'.ownsRow (w.heap.size + 1) 49 6 sv' (seen ++ [c]).length ((seen ++ [c]).flatMap Ce.cells)) (hc : c.Ok ∧ c.A ≤ M) {k a b : Int} (hm : opR q seen = .miss k a b) : LS w q (ks ++ [d]) (seen ++ [c]) kv' sv' M W' := by
  have h1 := h.later hb
  have z1 := h.lt
  have z2 := hb.size
  have z3 := tk.fr.size
  have z4 := hb2.size
  have kb : ∀ x, kv.ownBlock = some x → w.heap.size + 1 ≤ x := fun x e => (h.kr.lt x e).1
  have sb : ∀ x, sv.ownBlock = some x → w.heap.size + 1 ≤ x := fun x e => (h.sr.lt x e).1
  refine ⟨((h1.bel.trans (tk.below (B := w.heap.size) (fun x e => by have := kb x e; omega) h1.bel.size)).trans (hb2.mono (by omega))).trans (ts.below (B := w.heap.size) (fun x e => by have := sb x e; omega) (by omega)),
    ts.box ((tk.box h1.op (fun e => by have := kb _ e; omega)).later hb2) (fun e => by have := sb _ e; omega), ?_, hs, by rw [List.length_append, List.length_append, h.len]; rfl, ?_, ?_⟩
  · refine own_frs (own_below hk hb2) ts.fr (fun x e e2 => ?_)
    have h2 := own_frs h1.sr tk.fr (fun y e3 e4 => own_apart h1.kr h1.sr (by decide) y e4 e3)
    exact own_apart hk h2 (by decide) x e e2
  · intro x hx
    rcases List.mem_append.1 hx with hx | hx
    · exact h.ok x hx
    · obtain rfl : x = c := by simpa using hx
      exact hc
  · intro n hn
    rw [List.length_append] at hn
    rcases Nat.lt_or_ge n seen.length with h3 | h3
    · rw [List.take_append_of_le_length (by omega)]
      exact h.pre n h3
    · obtain rfl : n = seen.length := by simp at hn; omega
      rw [List.take_left]
      exact ⟨k, a, b, hm⟩
end
theorem own_some {W : World} {base n sz c : Nat} {e : TypeId} {A : Option Addr} {xs : List Value} (h : W.ownsRow base e sz (.slice A n c) n xs) (hn : 0 < n) : ∃ g, A = some ⟨g, 0, none⟩ := by
  rcases h.2 with ⟨h1, _⟩ | ⟨g, cap, cur, h1, _⟩
  · injection h1 with _ h2 _
    omega
  · injection h1 with h2 _ _
    exact ⟨g, h2⟩
structure LI (W : World) (g : Nat) (M : Int) (ce : Ce) (W' : World) : Prop where
  bx : Box W' g #[.int .u8 ce.k, .int .u32 ce.a, .int .u32 ce.b, .int .u64 ce.A, .int .u64 ce.B, .bool ce.is] 49
  ok : ce.Ok ∧ ce.A ≤ M
  fr : Fr (fun x => x = g) W W'
theorem LI.drewN {W W' : World} {g : Nat} {M : Int} {ce : Ce} (h : LI W g M ce W') (n : Nat) : LI W g M ce (W'.drewN n) := ⟨h.bx.drewN n, h.ok, h.fr.drewN n⟩
theorem LS.drewN {w W : World} {q : Ot} {ks seen : List Ce} {kv sv : Value} {M : Int} (h : LS w q ks seen kv sv M W) (n : Nat) : LS w q ks seen kv sv M (W.drewN n) := h.later (below_drewN (Below.refl _ _) n)
theorem LI.over {W W' : World} {g : Nat} {M : Int} {ce : Ce} (h : LI W g M ce W') (c : Ce) (hc : c.Ok ∧ c.A ≤ M) : LI W g M c ((((((W'.setCell ⟨g, 0, none⟩ (.int .u8 c.k)).setCell ⟨g, 1, none⟩ (.int .u32 c.a)).setCell ⟨g, 2, none⟩ (.int .u32 c.b)).setCell ⟨g, 3, none⟩ (.int .u64 c.A)).setCell ⟨g, 4, none⟩ (.int .u64 c.B)).setCell ⟨g, 5, none⟩ (.bool c.is)) :=
  ⟨(((((h.bx.set_ 0 _).set_ 1 _).set_ 2 _).set_ 3 _).set_ 4 _).set_ 5 _, hc, (((((h.fr.setCell (p := ⟨g, 0, none⟩) (.inl rfl) _).setCell (p := ⟨g, 1, none⟩) (.inl rfl) _).setCell (p := ⟨g, 2, none⟩) (.inl rfl) _).setCell (p := ⟨g, 3, none⟩) (.inl rfl) _).setCell (p := ⟨g, 4, none⟩) (.inl rfl) _).setCell (p := ⟨g, 5, none⟩) (.inl rfl) _⟩
theorem LI.over3 {W W' : World} {g : Nat} {M : Int} {ce : Ce} (h : LI W g M ce W') (c : Ce) (hc : c.Ok ∧ c.A ≤ M) : LI W g M ⟨ce.k, ce.a, ce.b, c.A, c.B, c.is⟩ (((W'.setCell ⟨g, 3, none⟩ (.int .u64 c.A)).setCell ⟨g, 4, none⟩ (.int .u64 c.B)).setCell ⟨g, 5, none⟩ (.bool c.is)) :=
  ⟨((h.bx.set_ 3 _).set_ 4 _).set_ 5 _, ⟨⟨hc.1.A, hc.1.B⟩, hc.2⟩, ((h.fr.setCell (p := ⟨g, 3, none⟩) (.inl rfl) _).setCell (p := ⟨g, 4, none⟩) (.inl rfl) _).setCell (p := ⟨g, 5, none⟩) (.inl rfl) _⟩
theorem LS.start (w : World) (q : Ot) (M : Int) : LS w q [] [] (.slice none 0 0) (.slice none 0 0) M (w.alloc (.cells #[.int .u8 q.kd, .int .u32 q.wh, .int .u32 q.wm, .int .u32 q.wt, .int .u32 q.id, .int .u64 q.n, .int .u64 q.pr] 32)) :=
  ⟨new_ (Below.refl _ _) _, Box.new _ _ _, World.ownsRow_nil _ _ _ _, World.ownsRow_nil _ _ _ _, rfl, fun c hc => by (cases hc), fun n hn => by simp at hn⟩
set_option maxRecDepth 100000 in
set_option maxHeartbeats 8000000 in
theorem look_law (w : World) (q : Ot) (hq : q.Ok) (val : Value) (vals : List Ce) (M : Int) (hM : 0 ≤ M) (hv : SeenAt w w.heap.size val vals) (hok : ∀ c ∈ vals, c.Ok ∧ c.A ≤ M) (h40 : vals.length ≤ 40) :
    Calls Try.prog 26 #[.agg q.cells, val] w fun e w' => ∃ kv sv ks seen, e = .returned (.tuple #[kv, sv, .bool true]) ∧ LS w q ks seen kv sv M w' ∧ ∀ k a b, opR q seen ≠ .miss k a b := by
  obtain ⟨A0, c0, rfl, hl1, hl2⟩ := hv.form
  obtain ⟨ik, hk0, hk1, hk2, hk3⟩ := info_parts key_info
  obtain ⟨ic, hc0, hc1, hc2, hc3⟩ := info_parts cell_info
  have NEXT := Lib.hid (fun (W : World) (A : Option Addr) (l c : Nat) (seen : List Ce) (hs : SeenAt W W.heap.size (.slice A l c) seen) (hok : ∀ c ∈ seen, c.Ok) => (show Calls Try.prog 29 #[.agg #[.int .u8 q.kd, .int .u32 q.wh, .int .u32 q.wm, .int .u32 q.wt, .int .u32 q.id, .int .u64 q.n, .int .u64 q.pr], .slice A l c] W fun en w' => en = .returned (.tuple #[.agg #[.int .u8 (nOut (opR q seen)).1, .int .u32 (nOut (opR q seen)).2.1, .int .u32 (nOut (opR q seen)).2.2.1], .bool (nOut (opR q seen)).2.2.2]) ∧ Below W.heap.size W w' from next_op q hq W A l c seen hs hok))
  have HV := Lib.hid hv
  have HOK := Lib.hid hok
  have START := Lib.hid (LS.start w q M)
  unfold Ot.cells
  clear hv hok hq
  go_enter Try.func26, Try.ntmps26
  go_wp2
  go_loopw [7, 8, 9] (fun kv sv i wr => ∃ ks seen, i = .int .i64 (seen.length : Nat) ∧ Hid (LS w q ks seen kv sv M wr)) (fun _ _ i _ => 13 - (intOf i).toNat)
  case atStart => exact ⟨[], [], rfl, START⟩
  case round =>
    clear START
    obtain ⟨ks, seen, rfl, HS⟩ := hrel
    obtain ⟨A1, c1, rfl, hl3, hl4⟩ := (SS.of_own kyC_len HS.out.kr).form
    obtain ⟨A2, c2, rfl, hl5, hl6⟩ := (SS.of_own Ce.cells_len HS.out.sr).form
    have h12 := HS.out.short
    have d1 : decide ((seen.length : Int) < 40) = true := by simp; omega
    have CALL := NEXT.out wr A2 seen.length c2 seen (SS.of_own Ce.cells_len HS.out.sr) (fun c hc => (HS.out.ok c hc).1)
    have yc := HS.out.op.cell
    cases hr : opR q seen with
    | miss k a b =>
      rw [hr] at CALL
      dsimp only [nOut] at CALL
      replace CALL := Lib.hid CALL
      have HR := Lib.hid hr
      clear hr
      go_wp2_with (go_at_call 29; (with_reducible refine CALL.out.mono ?_); rintro e w1 ⟨rfl, hb1⟩; have HS1 := Lib.hid (HS.out.later hb1); clear hb1)
      obtain ⟨W2, hW2⟩ : ∃ W2, (w1.alloc (.cells #[.int .u8 k, .int .u32 a, .int .u32 b] 24)).alloc (.cells #[.int .u8 k, .int .u32 a, .int .u32 b, .int .u64 0, .int .u64 0, .bool false] 49) = W2 := ⟨_, rfl⟩
      have KB := Lib.hid (show Box W2 w1.heap.size #[.int .u8 k, .int .u32 a, .int .u32 b] 24 by rw [← hW2]; exact (Box.new _ _ _).alloc _)
      have CB := Lib.hid (show Box W2 (w1.heap.size + 1) #[.int .u8 k, .int .u32 a, .int .u32 b, .int .u64 0, .int .u64 0, .bool false] 49 by
        rw [← hW2]
        have := Box.new (w1.alloc (.cells #[.int .u8 k, .int .u32 a, .int .u32 b] 24)) #[.int .u8 k, .int .u32 a, .int .u32 b, .int .u64 0, .int .u64 0, .bool false] 49
        rwa [World.size_alloc] at this)
      have NK := Lib.hid (fun x (e : (Value.slice A1 ks.length c1).ownBlock = some x) => (HS1.out.kr.lt x e).2)
      have NS := Lib.hid (fun x (e : (Value.slice A2 seen.length c2).ownBlock = some x) => (HS1.out.sr.lt x e).2)
      have HS2 := Lib.hid (show LS w q ks seen (.slice A1 ks.length c1) (.slice A2 seen.length c2) M W2 by rw [← hW2]; exact (HS1.out.later (new_ (Below.refl _ _) _)).later (new_ (Below.refl _ _) _))
      have GL := Lib.hid (show w.heap.size < w1.heap.size from HS1.out.lt)
      rw [hW2]
      have HKL := Lib.hid HS.out.len
      clear hW2 HS HS1 CALL yc d1
      go_loopw [13] (fun i wr => ∃ (j : Nat) (ce : Ce), j ≤ seen.length ∧ i = .int .i64 j ∧ Hid (LI W2 (w1.heap.size + 1) M ce wr)) (fun i _ => seen.length - (intOf i).toNat)
      case atStart => exact ⟨0, ⟨k, a, b, 0, 0, false⟩, by omega, rfl, Lib.hid ⟨CB.out, ⟨⟨by simp, by simp⟩, hM⟩, Fr.refl _ _⟩⟩
      case round =>
        obtain ⟨j, ce, hj, rfl, HL⟩ := hrel
        by_cases hlt : j < seen.length
        · have hlk : j < ks.length := by have := HKL.out; omega
          have d2 : decide ((j : Int) < (ks.length : Int)) = true := by simp; omega
          have HSj := Lib.hid (HS2.out.fr HL.out.fr (by have := GL.out; omega) (fun e => by have := NK.out _ e; omega) (fun e => by have := NS.out _ e; omega))
          have KBj := Lib.hid (KB.out.fr HL.out.fr (by omega))
          obtain ⟨g1, rfl⟩ := own_some HSj.out.kr (by omega)
          obtain ⟨g2, rfl⟩ := own_some HSj.out.sr (by omega)
          obtain ⟨kj, hkj⟩ : ∃ x, ks[j]? = some x := ⟨_, List.getElem?_eq_getElem hlk⟩
          obtain ⟨cj, hcj⟩ : ∃ x, seen[j]? = some x := ⟨_, List.getElem?_eq_getElem hlt⟩
          have kc := fun t (ht : t < 3) => (HSj.out.kr.cellAt (j * 3 + t) (by omega)).trans (flat_at kyC_len ks j kj t hkj ht)
          have z0 : wr.cell? ⟨g1, j * 3, none⟩ = some (.int .u8 kj.k) := kc 0 (by decide)
          have z1 : wr.cell? ⟨g1, j * 3 + 1, none⟩ = some (.int .u32 kj.a) := kc 1 (by decide)
          have z2 : wr.cell? ⟨g1, j * 3 + 2, none⟩ = some (.int .u32 kj.b) := kc 2 (by decide)
          have q1 : decide (j < ks.length) = true := by simp; omega
          have q2 : decide (j < seen.length) = true := by simp; omega
          have yk := KBj.out.cell
          clear kc
          go_upto_region 13 with fail
          rcases key_ways kj.k k kj.a a kj.b b with ⟨f0, f1, f2⟩ | f0 | ⟨f0, f1⟩ | ⟨f0, f1, f2⟩
          · go_quiet (fail)
            obtain ⟨W5, hW5⟩ : ∃ W5, wr.drewN nq = W5 := ⟨_, rfl⟩
            have HL5 := Lib.hid (show LI W2 (w1.heap.size + 1) M ce W5 by rw [← hW5]; exact HL.out.drewN nq)
            have HS5 := Lib.hid (show LS w q ks seen (.slice (some ⟨g1, 0, none⟩) ks.length c1) (.slice (some ⟨g2, 0, none⟩) seen.length c2) M W5 by rw [← hW5]; exact HSj.out.drewN nq)
            have HCJ := Lib.hid (HS2.out.ok cj (List.mem_of_getElem? hcj))
            try rw [hW5]
            have sc := fun t (ht : t < 6) => (HS5.out.sr.cellAt (j * 6 + t) (by omega)).trans (flat_at Ce.cells_len seen j cj t hcj ht)
            have s0 : W5.cell? ⟨g2, j * 6, none⟩ = some (.int .u8 cj.k) := sc 0 (by decide)
            have s1 : W5.cell? ⟨g2, j * 6 + 1, none⟩ = some (.int .u32 cj.a) := sc 1 (by decide)
            have s2 : W5.cell? ⟨g2, j * 6 + 2, none⟩ = some (.int .u32 cj.b) := sc 2 (by decide)
            have s3 : W5.cell? ⟨g2, j * 6 + 3, none⟩ = some (.int .u64 cj.A) := sc 3 (by decide)
            have s4 : W5.cell? ⟨g2, j * 6 + 4, none⟩ = some (.int .u64 cj.B) := sc 4 (by decide)
            have s5 : W5.cell? ⟨g2, j * 6 + 5, none⟩ = some (.bool cj.is) := sc 5 (by decide)
            have fc := HL5.out.bx.frozen
            have oc := HL5.out.bx.cell
            clear z0 z1 z2 yk f0 f1 f2 hW5 sc HL HSj KBj hkj hcj
            go_wp2
            exact ⟨⟨j + 1, cj, by omega, rfl, Lib.hid (HL5.out.over cj HCJ.out)⟩, by simp [intOf]; omega⟩
          all_goals
            go_quiet (fail)
            go_wp2
            exact ⟨⟨j + 1, ce, by omega, rfl, Lib.hid (HL.out.drewN nq)⟩, by simp [intOf]; omega⟩
        · have d2 : decide ((j : Int) < (ks.length : Int)) = false := by have := HKL.out; simp; omega
          have d6 : decide (j < ks.length) = false := by have := HKL.out; simp; omega
          have HSj := Lib.hid (HS2.out.fr HL.out.fr (by have := GL.out; omega) (fun e => by have := NK.out _ e; omega) (fun e => by have := NS.out _ e; omega))
          have KBj := Lib.hid (KB.out.fr HL.out.fr (by omega))
          obtain ⟨ck, ca, cb, cA, cB, cis⟩ := ce
          have HJ := Lib.hid (show j = seen.length by omega)
          go_upto_region 15 with fail
          clear d2 d6 hj hlt
          have hways := cell_ways ck k ca a cb b cA cB cis seen.length vals.length
          have oc := HL.out.bx.cell
          have fc := HL.out.bx.frozen
          have yk := KBj.out.cell
          dsimp only at oc
          rcases hways with ⟨⟨f0, f1, f2, f3, f4⟩, rfl, hi⟩ | ⟨⟨f0, f1, f2, f3, f4⟩, rfl, hi⟩ | ⟨⟨f0, f1, f2, f3, f4⟩, rfl⟩ | f0 | ⟨f0, f1⟩ | ⟨f0, f1, f2⟩ | ⟨f0, f1, f2, f3⟩ | ⟨f0, f1, f2, f3, f4⟩
          case' inl =>
            have d3 : decide ((seen.length : Int) < (vals.length : Int)) = true := by simp; omega
            have d4 : decide (seen.length < vals.length) = true := by simp; omega
            obtain ⟨vi, hvi⟩ : ∃ x, vals[seen.length]? = some x := ⟨_, List.getElem?_eq_getElem hi⟩
            obtain ⟨b0, off, rfl, hb0, hvc⟩ := HV.out.at_ hvi
            have HVI := Lib.hid (HOK.out vi (List.mem_of_getElem? hvi))
            have HB0 := Lib.hid hb0
            have vc := fun t (ht : t < 6) u (hu : vi.cells[t]? = some u) => (HSj.out.bel.cell (p := ⟨b0, off + seen.length * 6 + t, none⟩) hb0).trans (hvc t u hu)
            have v3 : wr.cell? ⟨b0, off + seen.length * 6 + 3, none⟩ = some (.int .u64 vi.A) := vc 3 (by decide) _ rfl
            have v4 : wr.cell? ⟨b0, off + seen.length * 6 + 3 + 1, none⟩ = some (.int .u64 vi.B) := vc 4 (by decide) _ rfl
            have v5 : wr.cell? ⟨b0, off + seen.length * 6 + 5, none⟩ = some (.bool vi.is) := vc 5 (by decide) _ rfl
            have n5 : b0 ≠ w1.heap.size + 1 := by have := GL.out; omega
            clear vc hvc hvi hb0
            go_upto_region 18 with fail
            obtain ⟨W6, hW6⟩ : ∃ W6, ((wr.setCell ⟨w1.heap.size + 1, 3, none⟩ (.int .u64 vi.A)).setCell ⟨w1.heap.size + 1, 4, none⟩ (.int .u64 vi.B)).setCell ⟨w1.heap.size + 1, 5, none⟩ (.bool vi.is) = W6 := ⟨_, rfl⟩
            obtain ⟨c6, HL6⟩ : ∃ c6, Hid (LI W2 (w1.heap.size + 1) M c6 W6) := ⟨_, Lib.hid (by rw [← hW6]; exact HL.out.over3 vi HVI.out)⟩
            rw [hW6]
            clear HL HSj KBj oc fc yk f0 f1 f2 f3 f4 v3 v4 v5
          case' inr.inl =>
            have d3 : decide ((seen.length : Int) < (vals.length : Int)) = false := by simp; omega
            go_upto_region 18 with fail
            obtain ⟨W6, hW6⟩ : ∃ W6, wr = W6 := ⟨_, rfl⟩
            obtain ⟨c6, HL6⟩ : ∃ c6, Hid (LI W2 (w1.heap.size + 1) M c6 W6) := ⟨_, Lib.hid (by rw [← hW6]; exact HL.out)⟩
            rw [hW6]
            clear HL HSj KBj oc fc yk d3 f0 f1 f2 f3 f4
          case' inr.inr.inl | inr.inr.inr.inl | inr.inr.inr.inr.inl | inr.inr.inr.inr.inr.inl | inr.inr.inr.inr.inr.inr.inl | inr.inr.inr.inr.inr.inr.inr =>
            go_upto_region 18 with fail
            obtain ⟨W6, hW6⟩ : ∃ W6, wr = W6 := ⟨_, rfl⟩
            obtain ⟨c6, HL6⟩ : ∃ c6, Hid (LI W2 (w1.heap.size + 1) M c6 W6) := ⟨_, Lib.hid (by rw [← hW6]; exact HL.out)⟩
            rw [hW6]
            clear HL HSj KBj oc fc yk f0
          all_goals
            clear hW6
            have HS6 := Lib.hid (HS2.out.fr HL6.out.fr (by have := GL.out; omega) (fun e => by have := NK.out _ e; omega) (fun e => by have := NS.out _ e; omega))
            have KB6 := Lib.hid (KB.out.fr HL6.out.fr (by omega))
            have ZL := HS6.out.lt
            have yk := KB6.out.cell
            go_wp2_with (first
              | (at_builtin; refine wpList_push_ss (F := kyC) (sz := 3) _ rfl _ _ _ rfl (w.heap.size + 1) 24 ik _ 12 Try.underlying34 hk0 hk1 hk2 hk3 rfl (by decide) kyC_len kyC_one _ ks rfl (own_below HS6.out.kr (new_ (Below.refl _ _) (.cells #[.int .u8 k, .int .u32 a, .int .u32 b] 24))) W6.heap.size ⟨k, a, b, 0, 0, false⟩ 24 rfl (Box.new W6 _ _) (by have := HKL.out; unfold maxLen; omega) (by have := HKL.out; omega) (by simp; omega) ?_; intro kv7 W7 hkn tk; have CB7 := Lib.hid (tk.box (HL6.out.bx.alloc _) (fun e => by have := NK.out _ e; omega)); have oc7 := CB7.out.cell
                 have ZL7 : w.heap.size + 1 ≤ W7.heap.size := by
                   have := tk.fr.size
                   simp at this
                   omega
                 have SR7 := Lib.hid (own_frs (own_below HS6.out.sr (new_ (Below.refl _ _) (.cells #[.int .u8 k, .int .u32 a, .int .u32 b] 24))) tk.fr (fun y e3 e4 => own_apart HS6.out.kr HS6.out.sr (by decide) y e4 e3)))
              | (at_builtin; refine wpList_push_ss (F := Ce.cells) (sz := 6) _ rfl _ _ _ rfl (w.heap.size + 1) 49 ic _ 40 Try.underlying33 hc0 hc1 hc2 hc3 rfl (by decide) Ce.cells_len Ce.cells_one _ seen rfl (own_below SR7.out (new_ (Below.refl _ _) (.cells #[.int .u8 c6.k, .int .u32 c6.a, .int .u32 c6.b, .int .u64 c6.A, .int .u64 c6.B, .bool c6.is] 49))) W7.heap.size c6 49 rfl (Box.new W7 _ _) (by unfold maxLen; omega) (by omega) (by simp; omega) ?_; intro sv9 W9 hsn ts))
            exact ⟨⟨ks ++ [⟨k, a, b, 0, 0, false⟩], seen ++ [c6], by simp, Lib.hid (HS6.out.push (new_ (Below.refl _ _) _) tk hkn (new_ (Below.refl _ _) _) ts hsn HL6.out.ok HR.out)⟩, by simp [intOf]; omega⟩
    | err e =>
      rw [hr] at CALL
      dsimp only [nOut] at CALL
      replace CALL := Lib.hid CALL
      have HR := Lib.hid hr
      clear hr
      go_wp2_with (go_at_call 29; (with_reducible refine CALL.out.mono ?_); rintro e w1 ⟨rfl, hb1⟩; have HS1 := Lib.hid (HS.out.later (hb1.trans ((new_ (Below.refl w1.heap.size w1) (.cells #[.int .u8 0, .int .u32 0, .int .u32 0] 24)).mono hb1.size))); clear hb1)
      go_ret3
      exact ⟨_, _, ks, seen, rfl, HS1.out, fun k a b h => by rw [HR.out] at h; cases h⟩
    | ok y j =>
      rw [hr] at CALL
      dsimp only [nOut] at CALL
      replace CALL := Lib.hid CALL
      have HR := Lib.hid hr
      clear hr
      go_wp2_with (go_at_call 29; (with_reducible refine CALL.out.mono ?_); rintro e w1 ⟨rfl, hb1⟩; have HS1 := Lib.hid (HS.out.later (hb1.trans ((new_ (Below.refl w1.heap.size w1) (.cells #[.int .u8 0, .int .u32 0, .int .u32 0] 24)).mono hb1.size))); clear hb1)
      go_ret3
      exact ⟨_, _, ks, seen, rfl, HS1.out, fun k a b h => by rw [HR.out] at h; cases h⟩
end Go.Proofs.Ytneaehimdmachaa.Rule
namespace Go.Proofs.Ytneaehimdmachaa.Rule
open Go.ChangeShapes Go.WideShapes Go.ChangeAt Go.RowKit Go.IntWalk Go.Proofs.Mem
set_option linter.unusedVariables false
set_option linter.unusedSimpArgs false
attribute [local go_sem ↓] Go.wp_at_zero Go.wp_at_succ
theorem own_6 {W : World} {base n g c : Nat} {e : TypeId} {us : List Value} (h : W.ownsRow base e 6 (.slice (some ⟨g, 0, none⟩) n c) n us) (i : Nat) (u : Value) (hu : us[i]? = some u) : W.cell? ⟨g, i, none⟩ = some u := by
  have := h.cells (g := g) rfl i u hu
  rw [show (⟨g, 0, none⟩ : Addr).add i = ⟨g, 0 + i, none⟩ from by rw [Go.WideShapes.add_plain], Nat.zero_add] at this
  exact this
theorem own_one {W : World} {base size : Nat} {e : TypeId} {v : Value} {us : List Value} {n : Nat} (h : W.ownsRow base e size v (n + 1) us) : ∃ g c, v = .slice (some ⟨g, 0, none⟩) (n + 1) c := by
  rcases h.2 with ⟨_, hn⟩ | ⟨g, cap, cur, rfl, _⟩
  · omega
  · exact ⟨g, cap, rfl⟩
theorem seen_one {W : World} {g : Nat} {c : Ce} {t : TypeId} (h : Box W g c.cells.toArray t) : SeenAt W W.heap.size (.slice (some ⟨g, 0, none⟩) 1 1) [c] := by
  refine ⟨some ⟨g, 0, none⟩, 1, rfl, Nat.le_refl _, by unfold maxLen; omega, fun i x hx => ⟨g, 0, rfl, h.lt, fun j u hu => ?_⟩⟩
  cases i with
  | succ i => simp at hx
  | zero =>
    obtain rfl : c = x := by simpa using hx
    rw [show 0 + 0 * 6 + j = j by omega, h.cell j]
    simpa using hu
set_option maxRecDepth 100000 in
set_option maxHeartbeats 4000000 in
theorem known_any (w : World) : Calls Try.prog 23 #[] w fun e w' => e = .returned (.bool true) ∧ Below w.heap.size w w' := by
  have hq : Ot.Ok ⟨2, 1, 0, 0, 0, 3, 0⟩ := ⟨by decide, by decide, by decide, by decide, by decide, by decide, by decide⟩
  have NX := Lib.hid (fun W => show Calls Try.prog 29 #[.agg #[.int .u8 2, .int .u32 1, .int .u32 0, .int .u32 0, .int .u32 0, .int .u64 3, .int .u64 0], .slice none 0 0] W fun en w' => en = .returned (.tuple #[.agg #[.int .u8 1, .int .u32 1, .int .u32 0], .bool true]) ∧ Below W.heap.size W w' from
    next_op ⟨2, 1, 0, 0, 0, 3, 0⟩ hq W none 0 0 [] (SS.nil _ _) (fun c hc => by cases hc))
  have DD := Lib.hid (fun (W : World) (g : Nat) (hg : Box W g #[.int .u8 0, .int .u32 0, .int .u32 0, .int .u64 5, .int .u64 0, .bool true] 49) => show Calls Try.prog 27 #[.agg #[.int .u8 2, .int .u32 1, .int .u32 0, .int .u32 0, .int .u32 0, .int .u64 3, .int .u64 0], .slice (some ⟨g, 0, none⟩) 1 1] W fun en w' => ∃ A' l' c', en = .returned (.tuple #[.slice A' l' c', .agg #[.int .u16 0, .int .u64 8, .int .u64 0, .int .u64 0]]) ∧ w'.ownsRow W.heap.size 51 6 (.slice A' l' c') 1 [.int .u8 1, .int .u32 1, .int .u32 0, .int .u64 8, .int .u64 0, .bool false] ∧ Below W.heap.size W w' from
    do_op ⟨2, 1, 0, 0, 0, 3, 0⟩ hq W (some ⟨g, 0, none⟩) 1 1 [⟨0, 0, 0, 5, 0, true⟩] (seen_one hg) (fun c hc => by rw [List.mem_singleton.1 hc]; exact ⟨by decide, by decide⟩))
  have OB := Lib.hid (Box.new w #[.int .u8 2, .int .u32 1, .int .u32 0, .int .u32 0, .int .u32 0, .int .u64 3, .int .u64 0] 32)
  go_enter Try.func23, Try.ntmps23
  go_wp2_with (first
    | (go_at_call 29; (with_reducible refine (NX.out _).mono ?_); rintro e w1 ⟨rfl, hb1⟩; have ob1 := (OB.out.later hb1).alloc (.cells #[.int .u8 1, .int .u32 1, .int .u32 0] 24); have o0 := ob1.cell 0; have o1 := ob1.cell 1; have o2 := ob1.cell 2; have o3 := ob1.cell 3; have o4 := ob1.cell 4; have o5 := ob1.cell 5; have o6 := ob1.cell 6; simp only [List.getElem?_toArray, List.getElem?_cons_zero, List.getElem?_cons_succ] at o0 o1 o2 o3 o4 o5 o6; have HB1 := Lib.hid hb1; have KB1 := Lib.hid ((Box.new w1 #[.int .u8 1, .int .u32 1, .int .u32 0] 24).alloc (.cells #[.int .u8 0, .int .u32 0, .int .u32 0, .int .u64 5, .int .u64 0, .bool true] 49)); have DO := Lib.hid (DD.out ((w1.alloc (.cells #[.int .u8 1, .int .u32 1, .int .u32 0] 24)).alloc (.cells #[.int .u8 0, .int .u32 0, .int .u32 0, .int .u64 5, .int .u64 0, .bool true] 49)) (w1.heap.size + 1) (by (have h := Box.new (w1.alloc (.cells #[.int .u8 1, .int .u32 1, .int .u32 0] 24)) #[.int .u8 0, .int .u32 0, .int .u32 0, .int .u64 5, .int .u64 0, .bool true] 49); rwa [World.size_alloc] at h)); clear hb1 ob1)
    | (go_at_call 27; (with_reducible refine DO.out.mono ?_); rintro e w2 ⟨A2, l2, c2, rfl, ow2, hb2⟩; clear o0 o1 o2 o3 o4 o5 o6))
  obtain ⟨gp, cp, e⟩ := own_one ow2
  injection e with e1 e2 e3
  subst e1 e2
  clear e3
  have HB2 := Lib.hid hb2
  obtain ⟨W3, hW3⟩ : ∃ W3, w2.alloc (.cells #[.int .u16 0, .int .u64 8, .int .u64 0, .int .u64 0] 41) = W3 := ⟨_, rfl⟩
  have kb3 : Box W3 w1.heap.size #[.int .u8 1, .int .u32 1, .int .u32 0] 24 := by rw [← hW3]; exact (KB1.out.later hb2).alloc _
  have rb3 : Box W3 w2.heap.size #[.int .u16 0, .int .u64 8, .int .u64 0, .int .u64 0] 41 := by rw [← hW3]; exact Box.new _ _ _
  have ow3 := own_below ow2 (show Below w2.heap.size w2 W3 by rw [← hW3]; exact new_ (Below.refl _ _) _)
  have B3 := Lib.hid (show Below w.heap.size w W3 by rw [← hW3]; exact new_ ((new_ (new_ ((new_ (Below.refl w.heap.size w) _).trans (HB1.out.mono (by simp))) _) _).trans (hb2.mono (by have := HB1.out.size; simp at *; omega))) _)
  have SK := Lib.hid (fun (w' : World) (h : Below W3.heap.size W3 w') => show (w'.cell? ⟨w1.heap.size, 0, none⟩ = some (.int .u8 1) ∧ w'.cell? ⟨w1.heap.size, 1, none⟩ = some (.int .u32 1) ∧ w'.cell? ⟨w1.heap.size, 2, none⟩ = some (.int .u32 0) ∧ w'.cell? ⟨gp, 0, none⟩ = some (.int .u8 1) ∧ w'.cell? ⟨gp, 1, none⟩ = some (.int .u32 1) ∧ w'.cell? ⟨gp, 2, none⟩ = some (.int .u32 0) ∧ w'.cell? ⟨gp, 3, none⟩ = some (.int .u64 8) ∧ w'.cell? ⟨gp, 4, none⟩ = some (.int .u64 0) ∧ w'.cell? ⟨gp, 5, none⟩ = some (.bool false) ∧ w'.cell? ⟨w2.heap.size, 0, none⟩ = some (.int .u16 0) ∧ w'.cell? ⟨w2.heap.size, 1, none⟩ = some (.int .u64 8) ∧ w'.cell? ⟨w2.heap.size, 2, none⟩ = some (.int .u64 0) ∧ w'.cell? ⟨w2.heap.size, 3, none⟩ = some (.int .u64 0)) ∧ Below W3.heap.size W3 w' from ⟨⟨(kb3.later h).cell 0, (kb3.later h).cell 1, (kb3.later h).cell 2, own_6 (own_below ow3 h) 0 _ rfl, own_6 (own_below ow3 h) 1 _ rfl, own_6 (own_below ow3 h) 2 _ rfl, own_6 (own_below ow3 h) 3 _ rfl, own_6 (own_below ow3 h) 4 _ rfl, own_6 (own_below ow3 h) 5 _ rfl, (rb3.later h).cell 0, (rb3.later h).cell 1, (rb3.later h).cell 2, (rb3.later h).cell 3⟩, h⟩)
  rw [hW3]
  clear hW3 kb3 rb3 ow3 ow2 hb2
  go_region_held3 (fun w' => (w'.cell? ⟨w1.heap.size, 0, none⟩ = some (.int .u8 1) ∧ w'.cell? ⟨w1.heap.size, 1, none⟩ = some (.int .u32 1) ∧ w'.cell? ⟨w1.heap.size, 2, none⟩ = some (.int .u32 0) ∧ w'.cell? ⟨gp, 0, none⟩ = some (.int .u8 1) ∧ w'.cell? ⟨gp, 1, none⟩ = some (.int .u32 1) ∧ w'.cell? ⟨gp, 2, none⟩ = some (.int .u32 0) ∧ w'.cell? ⟨gp, 3, none⟩ = some (.int .u64 8) ∧ w'.cell? ⟨gp, 4, none⟩ = some (.int .u64 0) ∧ w'.cell? ⟨gp, 5, none⟩ = some (.bool false) ∧ w'.cell? ⟨w2.heap.size, 0, none⟩ = some (.int .u16 0) ∧ w'.cell? ⟨w2.heap.size, 1, none⟩ = some (.int .u64 8) ∧ w'.cell? ⟨w2.heap.size, 2, none⟩ = some (.int .u64 0) ∧ w'.cell? ⟨w2.heap.size, 3, none⟩ = some (.int .u64 0)) ∧ Below W3.heap.size W3 w')
    (first | exact SK.out _ (Below.drew (Below.refl _ _)) | (go_split_ands; exact SK.out _ (Below.drew (by assumption))) | (go_split_ands; exact SK.out _ (step_ (by assumption) hbc)))
    ((go_at_call 7; (with_reducible refine (purse_any 1 _).mono ?_); rintro e w' ⟨rfl, hbc⟩))
  rename_i hH
  have hb4 := hH.2
  clear hH
  go_wp2
  go_ret
  exact ⟨rfl, B3.out.trans (hb4.mono B3.out.size)⟩
theorem Pu.cells_len (x : Pu) : x.cells.length = 6 := rfl
set_option maxRecDepth 100000 in
set_option maxHeartbeats 4000000 in
theorem same_puts (w : World) (u v : Value) (xs : List Pu) (hu : SS Pu.cells 6 w w.heap.size u xs) (hv : SS Pu.cells 6 w w.heap.size v xs) : Calls Try.prog 28 #[u, v] w fun e w' => e = .returned (.bool true) ∧ Below w.heap.size w w' := by
  obtain ⟨A, c, rfl, h1, h2⟩ := hu.form
  obtain ⟨B, d, rfl, h3, h4⟩ := hv.form
  have HU := Lib.hid hu
  have HV := Lib.hid hv
  unfold maxLen at h2 h4
  clear hu hv
  go_enter Try.func28, Try.ntmps28
  go_wp2
  go_loopw [5] (fun i wr => ∃ j : Nat, j ≤ xs.length ∧ i = .int .i64 j ∧ Hid (Below w.heap.size w wr)) (fun i _ => xs.length - (intOf i).toNat)
  case atStart => exact ⟨0, by omega, rfl, Lib.hid (Below.refl _ _)⟩
  case round =>
    obtain ⟨j, hj, rfl, HB⟩ := hrel
    by_cases hlt : j < xs.length
    · have d1 : decide ((j : Int) < (xs.length : Int)) = true := by simp; omega
      have d2 : decide (j < xs.length) = true := by simp; omega
      obtain ⟨x, hx⟩ : ∃ x, xs[j]? = some x := ⟨_, List.getElem?_eq_getElem hlt⟩
      obtain ⟨b0, o0, rfl, hb0, hc0⟩ := HU.out.at_ hx
      obtain ⟨b1, o1, rfl, hb1, hc1⟩ := HV.out.at_ hx
      have c0 := fun t u (hu : x.cells[t]? = some u) => (HB.out.cell (p := ⟨b0, o0 + j * 6 + t, none⟩) hb0).trans (hc0 t u hu)
      have c1 := fun t u (hu : x.cells[t]? = some u) => (HB.out.cell (p := ⟨b1, o1 + j * 6 + t, none⟩) hb1).trans (hc1 t u hu)
      have y0 : wr.cell? ⟨b0, o0 + j * 6, none⟩ = some (.int .u8 x.k) := c0 0 _ rfl
      have y1 : wr.cell? ⟨b0, o0 + j * 6 + 1, none⟩ = some (.int .u32 x.a) := c0 1 _ rfl
      have y2 : wr.cell? ⟨b0, o0 + j * 6 + 2, none⟩ = some (.int .u32 x.b) := c0 2 _ rfl
      have y3 : wr.cell? ⟨b0, o0 + j * 6 + 3, none⟩ = some (.int .u64 x.A) := c0 3 _ rfl
      have y4 : wr.cell? ⟨b0, o0 + j * 6 + 4, none⟩ = some (.int .u64 x.B) := c0 4 _ rfl
      have y5 : wr.cell? ⟨b0, o0 + j * 6 + 5, none⟩ = some (.bool x.gone) := c0 5 _ rfl
      have z0 : wr.cell? ⟨b1, o1 + j * 6, none⟩ = some (.int .u8 x.k) := c1 0 _ rfl
      have z1 : wr.cell? ⟨b1, o1 + j * 6 + 1, none⟩ = some (.int .u32 x.a) := c1 1 _ rfl
      have z2 : wr.cell? ⟨b1, o1 + j * 6 + 2, none⟩ = some (.int .u32 x.b) := c1 2 _ rfl
      have z3 : wr.cell? ⟨b1, o1 + j * 6 + 3, none⟩ = some (.int .u64 x.A) := c1 3 _ rfl
      have z4 : wr.cell? ⟨b1, o1 + j * 6 + 4, none⟩ = some (.int .u64 x.B) := c1 4 _ rfl
      have z5 : wr.cell? ⟨b1, o1 + j * 6 + 5, none⟩ = some (.bool x.gone) := c1 5 _ rfl
      clear c0 c1 hc0 hc1 hx
      go_upto_region 6 with fail
      go_quiet (fail)
      go_wp2
      exact ⟨⟨j + 1, by omega, rfl, Lib.hid (below_drewN HB.out nq)⟩, by simp [intOf]; omega⟩
    · have d1 : decide ((j : Int) < (xs.length : Int)) = false := by simp; omega
      have d2 : decide (j < xs.length) = false := by simp; omega
      go_wp2
      go_ret
      exact ⟨rfl, HB.out⟩
end Go.Proofs.Ytneaehimdmachaa.Rule
