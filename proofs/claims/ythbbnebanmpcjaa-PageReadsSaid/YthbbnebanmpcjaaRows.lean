/-
  No cell of these rows narrows 'for every input' (looked for: loops, veiled, ifaces, maps, wideKeys, modest, calm, conditions, laid).
  DERIVED. THE GIVEN ROWS OF THIS SEAT. 6 by the template 'for every input the law returns true; each argument reads behind the call as it read before'; 0 by the template 'total and deterministic' (their statements: YthbbnebanmpcjaaTotals.lean).
  GIVEN WITH THE SEED: the statements are not yours to turn. If you find one false, say at which input.
  Laid BY PROGRAM, IN A SANDBOX (cutbox-rows.mjs): the forced cells as the released guide's own fill.sh prints them over the translation d18a35053b8464c3… (all of the seat's roots in one cut). By AI agents, Wed Nov 11 2026. No macro, syntax, notation, axiom, sorry.
-/
import Derived.Test.YthbbnebanmpcjaaChecked
import GoSem.Claim
import GoSem.ClaimJoined
import GoSem.ClaimMapViews
import Derived.JoinedTies
import Derived.KernelRfl
namespace Go.Proofs.Ythbbnebanmpcjaa
/- THE CELL 'sum', in the pinned program and in every row, IS THE sha256 OF THE DUMP (.gsa) THAT YthbbnebanmpcjaaProg.lean LOADS. Nothing in Lean hashes anything: it is a label: what it is worth is what the hold of that sum in a sandbox is worth. -/
noncomputable def Try.pinned : Pinned := { name := "ythbbnebanmpcjaa", sum := "d18a35053b8464c3ea325b6e3f03850607a8b3bad71d9fa09bae2ffbb5d564ec", checked := Try.checked }
namespace Rows
def none {H : Type} : Left H := { results := [], args := [] }

/-- 'manciplelaw09.PageDoes': WHATEVER THE INPUT: true; the input reads as it did. -/
def pageDoesSpec : ChangeSpec := { name := "pageDoes", fn := fun _ => fun
  | [d1, d2] => { results := [.lit (.bool true)], args := [d1, d2] }
  | _ => none }
def pageDoesRow : OpenClaim := { program := "ythbbnebanmpcjaa", sum := "d18a35053b8464c3ea325b6e3f03850607a8b3bad71d9fa09bae2ffbb5d564ec", func := "manciple/manciplelaw09.PageDoes", spec := "pageDoes", apart := false }
def PageDoesSaid : Prop := pageDoesRow.holds Try.pinned (OpenSpec.ofChange pageDoesSpec)

/-- ITS FALSE NEIGHBOUR: 'it returns false'. Refute it at one input. -/
def pageDoesWrong : ChangeSpec := { name := "pageDoes", fn := fun _ => fun
  | [d1, d2] => { results := [.lit (.bool false)], args := [d1, d2] }
  | _ => none }
def PageDoesWrongFalsely : Prop := pageDoesRow.holds Try.pinned (OpenSpec.ofChange pageDoesWrong)

/-- 'manciplelaw09.PageReads': WHATEVER THE INPUT: true; the input reads as it did. -/
def pageReadsSpec : ChangeSpec := { name := "pageReads", fn := fun _ => fun
  | [d1, d2] => { results := [.lit (.bool true)], args := [d1, d2] }
  | _ => none }
def pageReadsRow : OpenClaim := { program := "ythbbnebanmpcjaa", sum := "d18a35053b8464c3ea325b6e3f03850607a8b3bad71d9fa09bae2ffbb5d564ec", func := "manciple/manciplelaw09.PageReads", spec := "pageReads", apart := false }
def PageReadsSaid : Prop := pageReadsRow.holds Try.pinned (OpenSpec.ofChange pageReadsSpec)

/-- ITS FALSE NEIGHBOUR: 'it returns false'. Refute it at one input. -/
def pageReadsWrong : ChangeSpec := { name := "pageReads", fn := fun _ => fun
  | [d1, d2] => { results := [.lit (.bool false)], args := [d1, d2] }
  | _ => none }
def PageReadsWrongFalsely : Prop := pageReadsRow.holds Try.pinned (OpenSpec.ofChange pageReadsWrong)

/-- 'manciplelaw09.PageBack': WHATEVER THE INPUT: true; the input reads as it did. -/
def pageBackSpec : ChangeSpec := { name := "pageBack", fn := fun _ => fun
  | [d1, d2] => { results := [.lit (.bool true)], args := [d1, d2] }
  | _ => none }
def pageBackRow : OpenClaim := { program := "ythbbnebanmpcjaa", sum := "d18a35053b8464c3ea325b6e3f03850607a8b3bad71d9fa09bae2ffbb5d564ec", func := "manciple/manciplelaw09.PageBack", spec := "pageBack", apart := false }
def PageBackSaid : Prop := pageBackRow.holds Try.pinned (OpenSpec.ofChange pageBackSpec)

/-- ITS FALSE NEIGHBOUR: 'it returns false'. Refute it at one input. -/
def pageBackWrong : ChangeSpec := { name := "pageBack", fn := fun _ => fun
  | [d1, d2] => { results := [.lit (.bool false)], args := [d1, d2] }
  | _ => none }
def PageBackWrongFalsely : Prop := pageBackRow.holds Try.pinned (OpenSpec.ofChange pageBackWrong)

/-- 'manciplelaw09.PageSlots': WHATEVER THE INPUT: true; the input reads as it did. -/
def pageSlotsSpec : ChangeSpec := { name := "pageSlots", fn := fun _ => fun
  | [d1, d2, d3, d4] => { results := [.lit (.bool true)], args := [d1, d2, d3, d4] }
  | _ => none }
def pageSlotsRow : OpenClaim := { program := "ythbbnebanmpcjaa", sum := "d18a35053b8464c3ea325b6e3f03850607a8b3bad71d9fa09bae2ffbb5d564ec", func := "manciple/manciplelaw09.PageSlots", spec := "pageSlots", apart := false }
def PageSlotsSaid : Prop := pageSlotsRow.holds Try.pinned (OpenSpec.ofChange pageSlotsSpec)

/-- ITS FALSE NEIGHBOUR: 'it returns false'. Refute it at one input. -/
def pageSlotsWrong : ChangeSpec := { name := "pageSlots", fn := fun _ => fun
  | [d1, d2, d3, d4] => { results := [.lit (.bool false)], args := [d1, d2, d3, d4] }
  | _ => none }
def PageSlotsWrongFalsely : Prop := pageSlotsRow.holds Try.pinned (OpenSpec.ofChange pageSlotsWrong)

/-- 'manciplelaw09.PageFits': WHATEVER THE INPUT: true; the input reads as it did. -/
def pageFitsSpec : ChangeSpec := { name := "pageFits", fn := fun _ => fun
  | [d1, d2, d3, d4] => { results := [.lit (.bool true)], args := [d1, d2, d3, d4] }
  | _ => none }
def pageFitsRow : OpenClaim := { program := "ythbbnebanmpcjaa", sum := "d18a35053b8464c3ea325b6e3f03850607a8b3bad71d9fa09bae2ffbb5d564ec", func := "manciple/manciplelaw09.PageFits", spec := "pageFits", apart := false }
def PageFitsSaid : Prop := pageFitsRow.holds Try.pinned (OpenSpec.ofChange pageFitsSpec)

/-- ITS FALSE NEIGHBOUR: 'it returns false'. Refute it at one input. -/
def pageFitsWrong : ChangeSpec := { name := "pageFits", fn := fun _ => fun
  | [d1, d2, d3, d4] => { results := [.lit (.bool false)], args := [d1, d2, d3, d4] }
  | _ => none }
def PageFitsWrongFalsely : Prop := pageFitsRow.holds Try.pinned (OpenSpec.ofChange pageFitsWrong)

/-- 'manciplelaw09.PageEmpty': WHATEVER THE INPUT: true; the input reads as it did. -/
def pageEmptySpec : ChangeSpec := { name := "pageEmpty", fn := fun _ => fun
  | [d1, d2] => { results := [.lit (.bool true)], args := [d1, d2] }
  | _ => none }
def pageEmptyRow : OpenClaim := { program := "ythbbnebanmpcjaa", sum := "d18a35053b8464c3ea325b6e3f03850607a8b3bad71d9fa09bae2ffbb5d564ec", func := "manciple/manciplelaw09.PageEmpty", spec := "pageEmpty", apart := false }
def PageEmptySaid : Prop := pageEmptyRow.holds Try.pinned (OpenSpec.ofChange pageEmptySpec)

/-- ITS FALSE NEIGHBOUR: 'it returns false'. Refute it at one input. -/
def pageEmptyWrong : ChangeSpec := { name := "pageEmpty", fn := fun _ => fun
  | [d1, d2] => { results := [.lit (.bool false)], args := [d1, d2] }
  | _ => none }
def PageEmptyWrongFalsely : Prop := pageEmptyRow.holds Try.pinned (OpenSpec.ofChange pageEmptyWrong)

/- THE SECOND FORM. 'bulk': how many values and letters a reading holds, each counted each time it is reached (what is shared counts as often as it is met; a slice's spare places count too). A statement '..UptoSaid' is the law's where the arguments, and the package variables that the reading takes, are together of bulk at most 1048576: NARROWER than '..Said'. Prove '..Said' where nothing that the law and all that it calls make is longer than what came in: it says more and counts as full. Else prove '..UptoSaid'. A law counts once. -/
mutual
def uptoBulk {H : Type} : DataW H → Nat
  | .lit (.string bytes) => bytes.length + 1
  | .lit _ => 1
  | .nil => 1
  | .ptr d => uptoBulk d + 1
  | .slice elems spare => uptoBulkAll elems + uptoBulkAll spare + 1
  | .agg parts => uptoBulkAll parts + 1
  | .iface _ d => uptoBulk d + 1
  | .map entries => uptoBulkEntries entries + 1
  | .held _ => 1
def uptoBulkAll {H : Type} : List (DataW H) → Nat
  | [] => 0
  | d :: r => uptoBulk d + uptoBulkAll r
def uptoBulkEntries {H : Type} : List (Lit × DataW H) → Nat
  | [] => 0
  | x :: r => uptoBulkEntry x + uptoBulkEntries r
def uptoBulkEntry {H : Type} : Lit × DataW H → Nat
  | (.string bytes, d) => bytes.length + uptoBulk d + 1
  | (_, d) => uptoBulk d + 1
 end
def uptoSmall : (H : Type) → List (DataW H) → Bool := fun _ ds => decide (uptoBulkAll ds ≤ 1048576)
def OpenSpec.upto (s : _root_.Go.ChangeSpec) : _root_.Go.OpenSpec := { _root_.Go.OpenSpec.ofChange s with cond := some uptoSmall }

/-- 'manciplelaw09.PageDoes', WHERE WHAT IT READS IS OF BULK AT MOST 1048576: true; the input reads as it did. -/
def pageDoesUptoRow : OpenClaim := { program := "ythbbnebanmpcjaa", sum := "d18a35053b8464c3ea325b6e3f03850607a8b3bad71d9fa09bae2ffbb5d564ec", func := "manciple/manciplelaw09.PageDoes", spec := "pageDoes", apart := false, narrowed := true }
def PageDoesUptoSaid : Prop := pageDoesUptoRow.holds Try.pinned (OpenSpec.upto pageDoesSpec)

/-- 'manciplelaw09.PageReads', WHERE WHAT IT READS IS OF BULK AT MOST 1048576: true; the input reads as it did. -/
def pageReadsUptoRow : OpenClaim := { program := "ythbbnebanmpcjaa", sum := "d18a35053b8464c3ea325b6e3f03850607a8b3bad71d9fa09bae2ffbb5d564ec", func := "manciple/manciplelaw09.PageReads", spec := "pageReads", apart := false, narrowed := true }
def PageReadsUptoSaid : Prop := pageReadsUptoRow.holds Try.pinned (OpenSpec.upto pageReadsSpec)

/-- 'manciplelaw09.PageBack', WHERE WHAT IT READS IS OF BULK AT MOST 1048576: true; the input reads as it did. -/
def pageBackUptoRow : OpenClaim := { program := "ythbbnebanmpcjaa", sum := "d18a35053b8464c3ea325b6e3f03850607a8b3bad71d9fa09bae2ffbb5d564ec", func := "manciple/manciplelaw09.PageBack", spec := "pageBack", apart := false, narrowed := true }
def PageBackUptoSaid : Prop := pageBackUptoRow.holds Try.pinned (OpenSpec.upto pageBackSpec)

/-- 'manciplelaw09.PageSlots', WHERE WHAT IT READS IS OF BULK AT MOST 1048576: true; the input reads as it did. -/
def pageSlotsUptoRow : OpenClaim := { program := "ythbbnebanmpcjaa", sum := "d18a35053b8464c3ea325b6e3f03850607a8b3bad71d9fa09bae2ffbb5d564ec", func := "manciple/manciplelaw09.PageSlots", spec := "pageSlots", apart := false, narrowed := true }
def PageSlotsUptoSaid : Prop := pageSlotsUptoRow.holds Try.pinned (OpenSpec.upto pageSlotsSpec)

/-- 'manciplelaw09.PageFits', WHERE WHAT IT READS IS OF BULK AT MOST 1048576: true; the input reads as it did. -/
def pageFitsUptoRow : OpenClaim := { program := "ythbbnebanmpcjaa", sum := "d18a35053b8464c3ea325b6e3f03850607a8b3bad71d9fa09bae2ffbb5d564ec", func := "manciple/manciplelaw09.PageFits", spec := "pageFits", apart := false, narrowed := true }
def PageFitsUptoSaid : Prop := pageFitsUptoRow.holds Try.pinned (OpenSpec.upto pageFitsSpec)

/-- 'manciplelaw09.PageEmpty', WHERE WHAT IT READS IS OF BULK AT MOST 1048576: true; the input reads as it did. -/
def pageEmptyUptoRow : OpenClaim := { program := "ythbbnebanmpcjaa", sum := "d18a35053b8464c3ea325b6e3f03850607a8b3bad71d9fa09bae2ffbb5d564ec", func := "manciple/manciplelaw09.PageEmpty", spec := "pageEmpty", apart := false, narrowed := true }
def PageEmptyUptoSaid : Prop := pageEmptyUptoRow.holds Try.pinned (OpenSpec.upto pageEmptySpec)

end Rows
end Go.Proofs.Ythbbnebanmpcjaa
