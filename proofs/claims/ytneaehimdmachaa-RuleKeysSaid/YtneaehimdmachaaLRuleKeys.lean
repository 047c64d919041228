/- The law manciplelaw21.RuleKeys returns true whatever it is called with, and what it was called with reads as it did. No condition. -/
import Derived.Test.YtneaehimdmachaaLaw
import Derived.Test.YtneaehimdmachaaRule10
namespace Go.Proofs.Ytneaehimdmachaa.LRuleKeys
open Go.ChangeShapes Go.WideShapes Go.ChangeAt Go.RowKit Go.IntWalk Go.Proofs.Mem Law
set_option linter.unusedVariables false
open Go.Proofs.Ytneaehimdmachaa.Rule
set_option maxRecDepth 100000 in
set_option maxHeartbeats 8000000 in
theorem walk (w : World) (a : Int) (ha : 0 ≤ a ∧ a ≤ 4294967295) (b : Int) (hb : 0 ≤ b ∧ b ≤ 4294967295) (kind : Int) (hkind : 0 ≤ kind ∧ kind ≤ 255) :
    Calls Try.prog 3 #[.int .u32 a, .int .u32 b, .int .u8 kind] w fun e w' => e = .returned (.bool true) ∧ Below w.heap.size w w' := by
  have hk := hkind
  go_enter Try.func3, Try.ntmps3
  go_wp2_with (first
    | (go_at_call 7; (with_reducible refine (purse_any a _).mono ?_); rintro e w1 ⟨rfl, hb1⟩; have B1 := Lib.hid hb1; clear hb1)
    | (go_at_call 8; (with_reducible refine (ref_purse_any a _).mono ?_); rintro e w2 ⟨rfl, hb2⟩; have B2 := Lib.hid (step_ B1.out hb2); clear hb2)
    | (go_at_call 9; (with_reducible refine (bank_any a _).mono ?_); rintro e w3 ⟨rfl, hb3⟩; have B3 := Lib.hid (step_ B2.out hb3); clear hb3)
    | (go_at_call 10; (with_reducible refine (ref_bank_any a _).mono ?_); rintro e w4 ⟨rfl, hb4⟩; have B4 := Lib.hid (step_ B3.out hb4); clear hb4)
    | (go_at_call 11; (with_reducible refine (stack_any a b _).mono ?_); rintro e w5 ⟨rfl, hb5⟩; have B5 := Lib.hid (step_ B4.out hb5); clear hb5)
    | (go_at_call 12; (with_reducible refine (ref_stack_any a b _).mono ?_); rintro e w6 ⟨rfl, hb6⟩; have B6 := Lib.hid (step_ B5.out hb6); clear hb6)
    | (go_at_call 13; (with_reducible refine (trade_any a _).mono ?_); rintro e w7 ⟨rfl, hb7⟩; have B7 := Lib.hid (step_ B6.out hb7); clear hb7)
    | (go_at_call 14; (with_reducible refine (ref_trade_any a _).mono ?_); rintro e w8 ⟨rfl, hb8⟩; have B8 := Lib.hid (step_ B7.out hb8); clear hb8)
    | (go_at_call 15; (with_reducible refine (offer_any a b _).mono ?_); rintro e w9 ⟨rfl, hb9⟩; have B9 := Lib.hid (step_ B8.out hb9); clear hb9)
    | (go_at_call 16; (with_reducible refine (ref_offer_any a b _).mono ?_); rintro e wA ⟨rfl, hbA⟩; have BA := Lib.hid (step_ B9.out hbA); clear hbA)
    | (go_at_call 17; (with_reducible refine (auction_any a _).mono ?_); rintro e wB ⟨rfl, hbB⟩; have BB := Lib.hid (step_ BA.out hbB); clear hbB)
    | (go_at_call 18; (with_reducible refine (ref_auction_any a _).mono ?_); rintro e wC ⟨rfl, hbC⟩; have BC := Lib.hid (step_ BB.out hbC); clear hbC)
    | (go_at_call 19; (with_reducible refine (bid_any a _).mono ?_); rintro e wD ⟨rfl, hbD⟩; have BD := Lib.hid (step_ BC.out hbD); clear hbD)
    | (go_at_call 20; (with_reducible refine (ref_bid_any a _).mono ?_); rintro e wE ⟨rfl, hbE⟩; have BE := Lib.hid (step_ BD.out hbE); clear hbE)
    | (go_at_call 21; (with_reducible refine (price_any a _).mono ?_); rintro e wF ⟨rfl, hbF⟩; have BF := Lib.hid (step_ BE.out hbF); clear hbF)
    | (go_at_call 22; (with_reducible refine (ref_price_any a _).mono ?_); rintro e wG ⟨rfl, hbG⟩; have BG := Lib.hid (step_ BF.out hbG); clear hbG)
    | (go_at_call 23; (with_reducible refine (known_any _).mono ?_); rintro e wH ⟨rfl, hbH⟩; have BH := Lib.hid (step_ BG.out hbH); clear hbH)
    | (go_at_call 24; (with_reducible refine (count_any kind hk _).mono ?_); rintro e wI ⟨rfl, hbI⟩; have BI := Lib.hid (step_ BH.out hbI); clear hbI)
    | (go_at_call 25; (with_reducible refine (ref_count_any kind hk _).mono ?_); rintro e wJ ⟨rfl, hbJ⟩; have BJ := Lib.hid (step_ BI.out hbJ); clear hbJ))
  go_ret
  exact ⟨rfl, BJ.out⟩


set_option maxRecDepth 100000 in
theorem lifted (os : Os) (started : os.Started) (H : Type) (enc : TypeId × Value → H) :
    ReturnsInHanded {} Try.checked os 3 .any (Rows.ruleKeysSpec.pre6 enc Try.prog Try.f3 Rows.ruleKeysRow.domain false) (Rows.ruleKeysSpec.post enc Try.prog Try.f3 false true false false) := by
  refine returnsInHanded_of_change (C := Try.checked) own started (by kernel_rfl) Try.func3
    (ChangeSpec.witness6 (enc := enc) (C := Try.checked) false ⟨#[], #[.int .u32 0, .int .u32 0, .int .u8 0], []⟩ 8 (by kernel_rfl) (by kernel_rfl) (by kernel_rfl) (by kernel_rfl)) ?_
  intro W base args ds gs before hval0 hW hcnd _
  have hval : ∀ (j : Nat) t v, Try.f3.params[j]? = some t → args[j]? = some v → Value.okWide Try.prog W .any base t v := hval0
  have hW' := hW
  obtain ⟨p, q, hA0, hV, rfl, hfz, hnd⟩ := hW
  have hA1 : DataW.TrodAll enc Try.prog W 0 (fun _ => true) true Try.f3.params.toList args.toList ds p := hA0
  have hA := hA1
  rw [Try.params3] at hA hval
  obtain ⟨v0, vs0, d0, ds0, p0, q0, hargs, rfl, rfl, h0, r0⟩ := trodAll_cons hA
  obtain ⟨v1, vs1, d1, ds1, p1, q1, rfl, rfl, rfl, h1, r1⟩ := trodAll_cons r0
  obtain ⟨v2, vs2, d2, ds2, p2, q2, rfl, rfl, rfl, h2, r2⟩ := trodAll_cons r1
  obtain ⟨rfl, rfl, rfl⟩ := trodAll_nil r2
  obtain rfl : args = #[v0, v1, v2] := by cases args; simp_all
  obtain ⟨rfl, rfl⟩ := trodVars_none hV
  obtain ⟨a, rfl, rfl, rfl, wf0⟩ := open_int Try.underlying22 (hval 0 22 v0 rfl rfl) h0
  obtain ⟨b, rfl, rfl, rfl, wf1⟩ := open_int Try.underlying22 (hval 1 22 v1 rfl rfl) h1
  obtain ⟨kind, rfl, rfl, rfl, wf2⟩ := open_int Try.underlying5 (hval 2 5 v2 rfl rfl) h2
  clear hA0 hval0
  refine (walk W a (bounds_u32 wf0) b (bounds_u32 wf1) kind (bounds_u8 wf2)).mono fun e W' ⟨he, bel⟩ => ?_
  subst he
  exact ⟨_, rfl, _, _, _, [], _, [], hW', trodAll_mk1 (shut_bool Try.underlying4 _), args_again laidOut bel (by kernel_rfl) hA1, rfl, bel.frame _, fun h => by cases h⟩

theorem over : Rows.ruleKeysRow.holds Try.pinned (OpenSpec.ofChange Rows.ruleKeysSpec) :=
  OpenClaim.holds_of_wide 3 Try.f3 rfl rfl rfl rfl rfl rfl rfl ⟨rfl, rfl, rfl, rfl, rfl⟩ rfl rfl rfl rfl rfl (by kernel_rfl) Try.func3 (by kernel_rfl)
    (of_decide_eq_true (by kernel_rfl)) (by unfold Func.isWrapper; first | (rw [if_pos (by decide +kernel)]; kernel_rfl) | (rw [if_neg (by decide +kernel)]; exact ⟨rfl, rfl⟩))
    (fun os started H enc _ => lifted os started H enc)

theorem proved : Rows.RuleKeysSaid := over
end Go.Proofs.Ytneaehimdmachaa.LRuleKeys
