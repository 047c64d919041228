import Derived.Test.YtneaehimdmachaaLaw
import Derived.Test.YtneaehimdmachaaBox
import Derived.Lib.Hide
import Derived.BigQuiet
import Derived.Deep.QuietTactic
import Derived.Defers
import Derived.WalkLawsBesides
import Derived.Recover
/- Keys; an operation given up. -/
namespace Go.Proofs.Ytneaehimdmachaa.Rule
open Go.ChangeShapes Go.WideShapes Go.ChangeAt Go.RowKit Go.IntWalk Go.Proofs.Mem
set_option linter.unusedVariables false
/-- what a key tells -/
def KeyP (k a b : Int) (w : World) (e : Ending) (w' : World) : Prop := e = .returned (.agg #[.int .u8 k, .int .u32 a, .int .u32 b]) ∧ Below w.heap.size w w'

theorem purse_any (a : Int) (w : World) : Calls Try.prog 7 #[.int .u32 a] w (KeyP 1 a 0 w) := by
  go_enter Try.func7, Try.ntmps7
  go_wp2
  refine bodyPost_ret (v := .agg #[.int .u8 1, .int .u32 a, .int .u32 0]) (by simp [results, Try.results7, go_sem]; try rfl) rfl ?_
  exact ⟨rfl, new_ (Below.refl _ _) _⟩

theorem bank_any (a : Int) (w : World) : Calls Try.prog 9 #[.int .u32 a] w (KeyP 2 a 0 w) := by
  go_enter Try.func9, Try.ntmps9
  go_wp2
  refine bodyPost_ret (v := .agg #[.int .u8 2, .int .u32 a, .int .u32 0]) (by simp [results, Try.results9, go_sem]; try rfl) rfl ?_
  exact ⟨rfl, new_ (Below.refl _ _) _⟩

theorem stack_any (a b : Int) (w : World) : Calls Try.prog 11 #[.int .u32 a, .int .u32 b] w (KeyP 3 a b w) := by
  go_enter Try.func11, Try.ntmps11
  go_wp2
  refine bodyPost_ret (v := .agg #[.int .u8 3, .int .u32 a, .int .u32 b]) (by simp [results, Try.results11, go_sem]; try rfl) rfl ?_
  exact ⟨rfl, new_ (Below.refl _ _) _⟩

theorem trade_any (a : Int) (w : World) : Calls Try.prog 13 #[.int .u32 a] w (KeyP 4 a 0 w) := by
  go_enter Try.func13, Try.ntmps13
  go_wp2
  refine bodyPost_ret (v := .agg #[.int .u8 4, .int .u32 a, .int .u32 0]) (by simp [results, Try.results13, go_sem]; try rfl) rfl ?_
  exact ⟨rfl, new_ (Below.refl _ _) _⟩

theorem offer_any (a b : Int) (w : World) : Calls Try.prog 15 #[.int .u32 a, .int .u32 b] w (KeyP 5 a b w) := by
  go_enter Try.func15, Try.ntmps15
  go_wp2
  refine bodyPost_ret (v := .agg #[.int .u8 5, .int .u32 a, .int .u32 b]) (by simp [results, Try.results15, go_sem]; try rfl) rfl ?_
  exact ⟨rfl, new_ (Below.refl _ _) _⟩

theorem auction_any (a : Int) (w : World) : Calls Try.prog 17 #[.int .u32 a] w (KeyP 6 a 0 w) := by
  go_enter Try.func17, Try.ntmps17
  go_wp2
  refine bodyPost_ret (v := .agg #[.int .u8 6, .int .u32 a, .int .u32 0]) (by simp [results, Try.results17, go_sem]; try rfl) rfl ?_
  exact ⟨rfl, new_ (Below.refl _ _) _⟩

theorem bid_any (a : Int) (w : World) : Calls Try.prog 19 #[.int .u32 a] w (KeyP 7 a 0 w) := by
  go_enter Try.func19, Try.ntmps19
  go_wp2
  refine bodyPost_ret (v := .agg #[.int .u8 7, .int .u32 a, .int .u32 0]) (by simp [results, Try.results19, go_sem]; try rfl) rfl ?_
  exact ⟨rfl, new_ (Below.refl _ _) _⟩

theorem price_any (a : Int) (w : World) : Calls Try.prog 21 #[.int .u32 a] w (KeyP 7 a 1 w) := by
  go_enter Try.func21, Try.ntmps21
  go_wp2
  refine bodyPost_ret (v := .agg #[.int .u8 7, .int .u32 a, .int .u32 1]) (by simp [results, Try.results21, go_sem]; try rfl) rfl ?_
  exact ⟨rfl, new_ (Below.refl _ _) _⟩

theorem count_any (a : Int) (ha : 0 ≤ a ∧ a ≤ 255) (w : World) : Calls Try.prog 24 #[.int .u8 a] w (KeyP 8 a 0 w) := by
  go_enter Try.func24, Try.ntmps24
  go_wp2
  refine bodyPost_ret (v := .agg #[.int .u8 8, .int .u32 a, .int .u32 0]) (by simp [results, Try.results24, go_sem]; try rfl) rfl ?_
  exact ⟨rfl, new_ (Below.refl _ _) _⟩

theorem ref_purse_any (a : Int) (w : World) : Calls Try.prog 8 #[.int .u32 a] w (KeyP 1 a 0 w) := by
  go_enter Try.func8, Try.ntmps8
  go_wp2
  refine bodyPost_ret (v := .agg #[.int .u8 1, .int .u32 a, .int .u32 0]) (by simp [results, Try.results8, go_sem]; try rfl) rfl ?_
  exact ⟨rfl, new_ (Below.refl _ _) _⟩

theorem ref_bank_any (a : Int) (w : World) : Calls Try.prog 10 #[.int .u32 a] w (KeyP 2 a 0 w) := by
  go_enter Try.func10, Try.ntmps10
  go_wp2
  refine bodyPost_ret (v := .agg #[.int .u8 2, .int .u32 a, .int .u32 0]) (by simp [results, Try.results10, go_sem]; try rfl) rfl ?_
  exact ⟨rfl, new_ (Below.refl _ _) _⟩

theorem ref_stack_any (a b : Int) (w : World) : Calls Try.prog 12 #[.int .u32 a, .int .u32 b] w (KeyP 3 a b w) := by
  go_enter Try.func12, Try.ntmps12
  go_wp2
  refine bodyPost_ret (v := .agg #[.int .u8 3, .int .u32 a, .int .u32 b]) (by simp [results, Try.results12, go_sem]; try rfl) rfl ?_
  exact ⟨rfl, new_ (Below.refl _ _) _⟩

theorem ref_trade_any (a : Int) (w : World) : Calls Try.prog 14 #[.int .u32 a] w (KeyP 4 a 0 w) := by
  go_enter Try.func14, Try.ntmps14
  go_wp2
  refine bodyPost_ret (v := .agg #[.int .u8 4, .int .u32 a, .int .u32 0]) (by simp [results, Try.results14, go_sem]; try rfl) rfl ?_
  exact ⟨rfl, new_ (Below.refl _ _) _⟩

theorem ref_offer_any (a b : Int) (w : World) : Calls Try.prog 16 #[.int .u32 a, .int .u32 b] w (KeyP 5 a b w) := by
  go_enter Try.func16, Try.ntmps16
  go_wp2
  refine bodyPost_ret (v := .agg #[.int .u8 5, .int .u32 a, .int .u32 b]) (by simp [results, Try.results16, go_sem]; try rfl) rfl ?_
  exact ⟨rfl, new_ (Below.refl _ _) _⟩

theorem ref_auction_any (a : Int) (w : World) : Calls Try.prog 18 #[.int .u32 a] w (KeyP 6 a 0 w) := by
  go_enter Try.func18, Try.ntmps18
  go_wp2
  refine bodyPost_ret (v := .agg #[.int .u8 6, .int .u32 a, .int .u32 0]) (by simp [results, Try.results18, go_sem]; try rfl) rfl ?_
  exact ⟨rfl, new_ (Below.refl _ _) _⟩

theorem ref_bid_any (a : Int) (w : World) : Calls Try.prog 20 #[.int .u32 a] w (KeyP 7 a 0 w) := by
  go_enter Try.func20, Try.ntmps20
  go_wp2
  refine bodyPost_ret (v := .agg #[.int .u8 7, .int .u32 a, .int .u32 0]) (by simp [results, Try.results20, go_sem]; try rfl) rfl ?_
  exact ⟨rfl, new_ (Below.refl _ _) _⟩

theorem ref_price_any (a : Int) (w : World) : Calls Try.prog 22 #[.int .u32 a] w (KeyP 7 a 1 w) := by
  go_enter Try.func22, Try.ntmps22
  go_wp2
  refine bodyPost_ret (v := .agg #[.int .u8 7, .int .u32 a, .int .u32 1]) (by simp [results, Try.results22, go_sem]; try rfl) rfl ?_
  exact ⟨rfl, new_ (Below.refl _ _) _⟩

theorem ref_count_any (a : Int) (ha : 0 ≤ a ∧ a ≤ 255) (w : World) : Calls Try.prog 25 #[.int .u8 a] w (KeyP 8 a 0 w) := by
  go_enter Try.func25, Try.ntmps25
  go_wp2
  refine bodyPost_ret (v := .agg #[.int .u8 8, .int .u32 a, .int .u32 0]) (by simp [results, Try.results25, go_sem]; try rfl) rfl ?_
  exact ⟨rfl, new_ (Below.refl _ _) _⟩

/-- an error that an operation is given up with -/
def raise_ (e : Int) : List PanicEntry := [{ v := .iface 39 (.int .u16 e), recovered := false }]
def raiseK (k a b : Int) : List PanicEntry := [{ v := .iface 64 (.agg #[.int .u8 k, .int .u32 a, .int .u32 b]), recovered := false }]
theorem deny_no (n : Int) (w : World) : Calls Try.prog 34 #[.bool false, .int .u16 n] w fun e w' => e = .returned (.tuple #[]) ∧ w = w' := by
  go_enter Try.func34, Try.ntmps34
  go_wp2
  go_end0
  exact ⟨rfl, rfl⟩
theorem deny_yes (n : Int) (w : World) : Calls Try.prog 34 #[.bool true, .int .u16 n] w fun e w' => e = .panicked (raise_ n) ∧ w = w' := by
  go_enter Try.func34, Try.ntmps34
  go_wp2
  exact ⟨rfl, rfl, rfl⟩
/-- what an operation has come to: nothing is put; a reply, or a key that is looked up -/
def outE (e : Int) : Array Value := #[.slice none 0 0, .int .u16 e, .int .u64 0, .int .u64 0, .int .u64 0, .int .u8 0, .int .u32 0, .int .u32 0, .bool false]
def outK (k a b : Int) : Array Value := #[.slice none 0 0, .int .u16 0, .int .u64 0, .int .u64 0, .int .u64 0, .int .u8 k, .int .u32 a, .int .u32 b, .bool true]
def out0 : Array Value := #[.slice none 0 0, .int .u16 0, .int .u64 0, .int .u64 0, .int .u64 0, .int .u8 0, .int .u32 0, .int .u32 0, .bool false]
theorem ta_no (e : Int) (w : World) : (Instr.typeAssert (.iface 39 (.int .u16 e)) 20 64 true).run Try.prog w = .ok (.tuple #[.agg #[.int .u8 0, .int .u32 0, .int .u32 0], .bool false]) w := by kernel_rfl
theorem ta_yes (e : Int) (w : World) : (Instr.typeAssert (.iface 39 (.int .u16 e)) 20 39 true).run Try.prog w = .ok (.tuple #[.int .u16 e, .bool true]) w := by kernel_rfl
theorem tk_yes (k a b : Int) (w : World) : (Instr.typeAssert (.iface 64 (.agg #[.int .u8 k, .int .u32 a, .int .u32 b])) 20 64 true).run Try.prog w = .ok (.tuple #[.agg #[.int .u8 k, .int .u32 a, .int .u32 b], .bool true]) w := by kernel_rfl
theorem tn_1 (w : World) : (Instr.typeAssert .nilIface 20 64 true).run Try.prog w = .ok (.tuple #[.agg #[.int .u8 0, .int .u32 0, .int .u32 0], .bool false]) w := by kernel_rfl
theorem tn_2 (w : World) : (Instr.typeAssert .nilIface 20 39 true).run Try.prog w = .ok (.tuple #[.int .u16 0, .bool false]) w := by kernel_rfl
set_option maxRecDepth 100000 in
set_option maxHeartbeats 2000000 in
theorem catch_err (g : Nat) (e : Int) (w : World) (hb : Box w g out0 57) :
    CallsD Try.prog 31 #[.pointer (some ⟨g, 0, none⟩)] (.panicking (raise_ e)) w fun en u' w' =>
      en = .returned (.tuple #[]) ∧ u' = .panicking [{ v := .iface 39 (.int .u16 e), recovered := true }] ∧ Box w' g (outE e) 57 ∧ Fr (fun k => k = g) w w' := by
  unfold raise_
  refine callsD_of_wpS Try.func31 rfl fun c₀ cs hu => ?_
  simp only [Try.ntmps31, List.size_toArray, List.length_cons, List.length_nil, Nat.reduceAdd, Nat.reduceSub, Array.replicate_succ, Array.replicate_zero, List.push_toArray, List.append_toArray, List.nil_append, List.cons_append]
  apply wpS_seq
  apply wpS_region
  simp [wpOpsS, go_sem, recoverD, hu, Exit.thenS]
  have HB := Lib.hid hb
  unfold out0 at hb
  have k0 := hb.cell 0
  have f0 := hb.frozen 0
  have k1 := hb.cell 1
  have f1 := hb.frozen 1
  have k2 := hb.cell 2
  have f2 := hb.frozen 2
  have k3 := hb.cell 3
  have f3 := hb.frozen 3
  have k4 := hb.cell 4
  have f4 := hb.frozen 4
  have k5 := hb.cell 5
  have f5 := hb.frozen 5
  have k6 := hb.cell 6
  have f6 := hb.frozen 6
  have k7 := hb.cell 7
  have f7 := hb.frozen 7
  have k8 := hb.cell 8
  have f8 := hb.frozen 8
  simp only [List.getElem?_toArray, List.getElem?_cons_zero, List.getElem?_cons_succ] at k0 k1 k2 k3 k4 k5 k6 k7 k8
  clear hb
  refine wpS_of_wp ?_
  have t1 := ta_no e
  have t2 := ta_yes e
  go_wp2
  generalize hW : (World.setCell _ (⟨g, 8, none⟩ : Addr) _) = W9
  have hb9 : Box W9 g (outE e) 57 := by rw [← hW]; exact (((((((((HB.out.set_ 0 _).set_ 1 _).set_ 2 _).set_ 3 _).set_ 4 _).set_ 5 _).set_ 6 _).set_ 7 _).set_ 8 _)
  have hf9 : Fr (fun k => k = g) w W9 := by rw [← hW]; exact ((((((((((Fr.refl (fun k => k = g) w).setCell (p := ⟨g, 0, none⟩) (.inl rfl) _).setCell (p := ⟨g, 1, none⟩) (.inl rfl) _).setCell (p := ⟨g, 2, none⟩) (.inl rfl) _).setCell (p := ⟨g, 3, none⟩) (.inl rfl) _).setCell (p := ⟨g, 4, none⟩) (.inl rfl) _).setCell (p := ⟨g, 5, none⟩) (.inl rfl) _).setCell (p := ⟨g, 6, none⟩) (.inl rfl) _).setCell (p := ⟨g, 7, none⟩) (.inl rfl) _).setCell (p := ⟨g, 8, none⟩) (.inl rfl) _)
  clear hW
  simp [bodyPostS, results, Try.results31, hb9, hf9]
set_option maxRecDepth 100000 in
set_option maxHeartbeats 2000000 in
theorem catch_key (g : Nat) (k a b : Int) (w : World) (hb : Box w g out0 57) :
    CallsD Try.prog 31 #[.pointer (some ⟨g, 0, none⟩)] (.panicking (raiseK k a b)) w fun en u' w' =>
      en = .returned (.tuple #[]) ∧ u' = .panicking [{ v := .iface 64 (.agg #[.int .u8 k, .int .u32 a, .int .u32 b]), recovered := true }] ∧ Box w' g (outK k a b) 57 ∧ Fr (fun k => k = g) w w' := by
  unfold raiseK
  refine callsD_of_wpS Try.func31 rfl fun c₀ cs hu => ?_
  simp only [Try.ntmps31, List.size_toArray, List.length_cons, List.length_nil, Nat.reduceAdd, Nat.reduceSub, Array.replicate_succ, Array.replicate_zero, List.push_toArray, List.append_toArray, List.nil_append, List.cons_append]
  apply wpS_seq
  apply wpS_region
  simp [wpOpsS, go_sem, recoverD, hu, Exit.thenS]
  have HB := Lib.hid hb
  have hlt := hb.lt
  unfold out0 at hb
  have k0 := hb.cell 0
  have f0 := hb.frozen 0
  have k1 := hb.cell 1
  have f1 := hb.frozen 1
  have k2 := hb.cell 2
  have f2 := hb.frozen 2
  have k3 := hb.cell 3
  have f3 := hb.frozen 3
  have k4 := hb.cell 4
  have f4 := hb.frozen 4
  have k5 := hb.cell 5
  have f5 := hb.frozen 5
  have k6 := hb.cell 6
  have f6 := hb.frozen 6
  have k7 := hb.cell 7
  have f7 := hb.frozen 7
  have k8 := hb.cell 8
  have f8 := hb.frozen 8
  simp only [List.getElem?_toArray, List.getElem?_cons_zero, List.getElem?_cons_succ] at k0 k1 k2 k3 k4 k5 k6 k7 k8
  clear hb
  refine wpS_of_wp ?_
  have t1 := tk_yes k a b
  go_wp2
  generalize hW : (World.setCell _ (⟨g, 8, none⟩ : Addr) _) = W9
  have hb9 : Box W9 g (outK k a b) 57 := by rw [← hW]; exact (((((((((HB.out.set_ 0 _).set_ 1 _).set_ 2 _).set_ 3 _).set_ 4 _).set_ 5 _).set_ 6 _).set_ 7 _).set_ 8 _)
  have hf9 : Fr (fun k => k = g) w W9 := by rw [← hW]; exact ((((((((((Fr.refl (fun k => k = g) w).setCell (p := ⟨g, 0, none⟩) (.inl rfl) _).setCell (p := ⟨g, 1, none⟩) (.inl rfl) _).setCell (p := ⟨g, 2, none⟩) (.inl rfl) _).setCell (p := ⟨g, 3, none⟩) (.inl rfl) _).setCell (p := ⟨g, 4, none⟩) (.inl rfl) _).setCell (p := ⟨g, 5, none⟩) (.inl rfl) _).setCell (p := ⟨g, 6, none⟩) (.inl rfl) _).setCell (p := ⟨g, 7, none⟩) (.inl rfl) _).setCell (p := ⟨g, 8, none⟩) (.inl rfl) _)
  clear hW
  have hb8 := fun o => hb9.alloc o
  have hf8 := fun o => hf9.alloc o
  simp [bodyPostS, results, Try.results31, hb8, hf8]
set_option maxHeartbeats 2000000 in
theorem catch_none (g : Nat) (w : World) :
    CallsD Try.prog 31 #[.pointer (some ⟨g, 0, none⟩)] .returning w fun en u' w' => en = .returned (.tuple #[]) ∧ u' = .returning ∧ w = w' := by
  refine callsD_of_wpS Try.func31 rfl fun c₀ cs hu => ?_
  simp only [Try.ntmps31, List.size_toArray, List.length_cons, List.length_nil, Nat.reduceAdd, Nat.reduceSub, Array.replicate_succ, Array.replicate_zero, List.push_toArray, List.append_toArray, List.nil_append, List.cons_append]
  apply wpS_seq
  apply wpS_region
  simp [wpOpsS, go_sem, recoverD, hu, Exit.thenS]
  refine wpS_of_wp ?_
  have t1 := tn_1
  have t2 := tn_2
  go_wp2
  cases c₀
  simp_all [bodyPostS, results, Try.results31]
end Go.Proofs.Ytneaehimdmachaa.Rule
