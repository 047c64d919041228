import Derived.Test.YtneaehimdmachaaRmC
import Derived.Test.YtneaehimdmachaaRmD
import Derived.Test.YtneaehimdmachaaRmE
import Derived.Test.YtneaehimdmachaaRmF
import Derived.Test.YtneaehimdmachaaRmG
namespace Go.Proofs.Ytneaehimdmachaa.Rule
open Go.ChangeShapes Go.WideShapes Go.ChangeAt Go.RowKit Go.IntWalk Go.Proofs.Mem Go.Proofs.Each
set_option linter.unusedVariables false
set_option linter.unusedSimpArgs false
theorem offer_all (w : World) (g : Nat) (q : Ot) (v : Value) (base i : Nat) (p : Value) (l : List Pu) (seen : List Ce) (hst : St w g q v base i p l) (hs : SeenAt w g v seen) (hg : g < base) (hbase : base ≤ w.heap.size) (hl : l.length ≤ 700) (hi : i ≤ 700000) (hq : q.Ok) (hok : ∀ c ∈ seen, c.Ok) :
    Calls Try.prog 44 #[.pointer (some ⟨g, 0, none⟩)] w (Did w g q v base i p l seen (oOffer q) Rp.enc) := by
  obtain ⟨c1, e1⟩ := the_cell seen (i + 1)
  have key : (∃ n : Int, ∀ c : Ce, seen[i]? = some c → (q.wh = hi32 c.A ∧ n = 0) ∨ (q.wh ≠ hi32 c.A ∧ q.wh = lo32 c.A ∧ n = 1)) ∨ (∀ c : Ce, seen[i]? = some c → q.wh ≠ hi32 c.A ∧ q.wh ≠ lo32 c.A) := by
    rcases the_side seen i q with h | h | h
    · exact .inl ⟨0, fun c hc => .inl ⟨h c hc, rfl⟩⟩
    · exact .inl ⟨1, fun c hc => .inr ⟨(h c hc).1, (h c hc).2, rfl⟩⟩
    · exact .inr h
  rcases key with ⟨n, hc⟩ | hc
  case inr => exact offer_none w g q v base i p l seen hst hs hg hbase hl hi hq hok hc
  cases h1 : c1.is with
  | false =>
    have k1 : ∀ c, seen[i + 1]? = some c → c.is = false := fun c hc => by rw [e1 c hc]; exact h1
    by_cases hn : q.n = 0
    · exact offer_no_zero w g q v base i p l seen hst hs hg hbase hl hi hq hok n hc k1 hn
    by_cases hw : q.wt = 0
    · exact offer_no_coin w g q v base i p l seen hst hs hg hbase hl hi hq hok n hc k1 hn hw
    · exact offer_no_item w g q v base i p l seen hst hs hg hbase hl hi hq hok n hc k1 hn hw
  | true =>
    have k1 : ∀ c, seen[i + 1]? = some c → c.is = true := fun c hc => by rw [e1 c hc]; exact h1
    by_cases h2 : c1.vB = 0
    · have k2 : ∀ c, seen[i + 1]? = some c → c.vB = 0 := fun c hc => by rw [e1 c hc]; exact h2
      by_cases hn : q.n = 0
      · exact offer_coin_zero w g q v base i p l seen hst hs hg hbase hl hi hq hok n hc k1 k2 hn
      by_cases hw : q.wt = 0
      · exact offer_coin_coin w g q v base i p l seen hst hs hg hbase hl hi hq hok n hc k1 k2 hn hw
      · exact offer_coin_item w g q v base i p l seen hst hs hg hbase hl hi hq hok n hc k1 k2 hn hw
    · have k2 : ∀ c, seen[i + 1]? = some c → c.vB ≠ 0 := fun c hc => by rw [e1 c hc]; exact h2
      by_cases hn : q.n = 0
      · exact offer_item_zero w g q v base i p l seen hst hs hg hbase hl hi hq hok n hc k1 k2 hn
      by_cases hw : q.wt = 0
      · exact offer_item_coin w g q v base i p l seen hst hs hg hbase hl hi hq hok n hc k1 k2 hn hw
      by_cases hv : q.wt = c1.vB
      · exact offer_item_same w g q v base i p l seen hst hs hg hbase hl hi hq hok n hc k1 k2 hn hw (fun c hc => by rw [e1 c hc]; exact hv)
      · exact offer_item_item w g q v base i p l seen hst hs hg hbase hl hi hq hok n hc k1 k2 hn hw (fun c hc => by rw [e1 c hc]; exact hv)
end Go.Proofs.Ytneaehimdmachaa.Rule
