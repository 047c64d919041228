/-
  No cell of these rows narrows 'for every input' (looked for: loops, veiled, ifaces, maps, wideKeys, modest, calm, conditions, laid).
  DERIVED. THE GIVEN ROWS OF THIS SEAT. 4 by the template 'for every input the law returns true; each argument reads behind the call as it read before'; 0 by the template 'total and deterministic' (their statements: YtfkomfhnkpecfaaTotals.lean).
  GIVEN WITH THE SEED: the statements are not yours to turn. If you find one false, say at which input.
  Laid BY PROGRAM, IN A SANDBOX (cutbox-rows.mjs): the forced cells as the released guide's own fill.sh prints them over the translation 8a9d0080b76298d6… (all of the seat's roots in one cut). By AI agents, Wed Nov 11 2026. No macro, syntax, notation, axiom, sorry.
-/
import Derived.Test.YtfkomfhnkpecfaaChecked
import GoSem.Claim
import GoSem.ClaimJoined
import GoSem.ClaimMapViews
import Derived.JoinedTies
import Derived.KernelRfl
namespace Go.Proofs.Ytfkomfhnkpecfaa
/- THE CELL 'sum', in the pinned program and in every row, IS THE sha256 OF THE DUMP (.gsa) THAT YtfkomfhnkpecfaaProg.lean LOADS. Nothing in Lean hashes anything: it is a label: what it is worth is what the hold of that sum in a sandbox is worth. -/
noncomputable def Try.pinned : Pinned := { name := "ytfkomfhnkpecfaa", sum := "8a9d0080b76298d690ec0c1ef44c8c80b9ddff4a961d277be83b2c8c5bbee4e8", checked := Try.checked }
namespace Rows
def none {H : Type} : Left H := { results := [], args := [] }

/-- 'manciplelaw04.RecipeAll': WHATEVER THE INPUT: true; the input reads as it did. -/
def recipeAllSpec : ChangeSpec := { name := "recipeAll", fn := fun _ => fun
  | [d1, d2, d3] => { results := [.lit (.bool true)], args := [d1, d2, d3] }
  | _ => none }
def recipeAllRow : OpenClaim := { program := "ytfkomfhnkpecfaa", sum := "8a9d0080b76298d690ec0c1ef44c8c80b9ddff4a961d277be83b2c8c5bbee4e8", func := "manciple/manciplelaw04.RecipeAll", spec := "recipeAll", apart := false }
def RecipeAllSaid : Prop := recipeAllRow.holds Try.pinned (OpenSpec.ofChange recipeAllSpec)

/-- ITS FALSE NEIGHBOUR: 'it returns false'. Refute it at one input. -/
def recipeAllWrong : ChangeSpec := { name := "recipeAll", fn := fun _ => fun
  | [d1, d2, d3] => { results := [.lit (.bool false)], args := [d1, d2, d3] }
  | _ => none }
def RecipeAllWrongFalsely : Prop := recipeAllRow.holds Try.pinned (OpenSpec.ofChange recipeAllWrong)

/-- 'manciplelaw04.RecipeMany': WHATEVER THE INPUT: true; the input reads as it did. -/
def recipeManySpec : ChangeSpec := { name := "recipeMany", fn := fun _ => fun
  | [d1, d2, d3] => { results := [.lit (.bool true)], args := [d1, d2, d3] }
  | _ => none }
def recipeManyRow : OpenClaim := { program := "ytfkomfhnkpecfaa", sum := "8a9d0080b76298d690ec0c1ef44c8c80b9ddff4a961d277be83b2c8c5bbee4e8", func := "manciple/manciplelaw04.RecipeMany", spec := "recipeMany", apart := false }
def RecipeManySaid : Prop := recipeManyRow.holds Try.pinned (OpenSpec.ofChange recipeManySpec)

/-- ITS FALSE NEIGHBOUR: 'it returns false'. Refute it at one input. -/
def recipeManyWrong : ChangeSpec := { name := "recipeMany", fn := fun _ => fun
  | [d1, d2, d3] => { results := [.lit (.bool false)], args := [d1, d2, d3] }
  | _ => none }
def RecipeManyWrongFalsely : Prop := recipeManyRow.holds Try.pinned (OpenSpec.ofChange recipeManyWrong)

/-- 'manciplelaw04.RecipeOwn': WHATEVER THE INPUT: true; the input reads as it did. -/
def recipeOwnSpec : ChangeSpec := { name := "recipeOwn", fn := fun _ => fun
  | [d] => { results := [.lit (.bool true)], args := [d] }
  | _ => none }
def recipeOwnRow : OpenClaim := { program := "ytfkomfhnkpecfaa", sum := "8a9d0080b76298d690ec0c1ef44c8c80b9ddff4a961d277be83b2c8c5bbee4e8", func := "manciple/manciplelaw04.RecipeOwn", spec := "recipeOwn", apart := false }
def RecipeOwnSaid : Prop := recipeOwnRow.holds Try.pinned (OpenSpec.ofChange recipeOwnSpec)

/-- ITS FALSE NEIGHBOUR: 'it returns false'. Refute it at one input. -/
def recipeOwnWrong : ChangeSpec := { name := "recipeOwn", fn := fun _ => fun
  | [d] => { results := [.lit (.bool false)], args := [d] }
  | _ => none }
def RecipeOwnWrongFalsely : Prop := recipeOwnRow.holds Try.pinned (OpenSpec.ofChange recipeOwnWrong)

/-- 'manciplelaw04.RecipeLines': WHATEVER THE INPUT: true; the input reads as it did. -/
def recipeLinesSpec : ChangeSpec := { name := "recipeLines", fn := fun _ => fun
  | [d] => { results := [.lit (.bool true)], args := [d] }
  | _ => none }
def recipeLinesRow : OpenClaim := { program := "ytfkomfhnkpecfaa", sum := "8a9d0080b76298d690ec0c1ef44c8c80b9ddff4a961d277be83b2c8c5bbee4e8", func := "manciple/manciplelaw04.RecipeLines", spec := "recipeLines", apart := false }
def RecipeLinesSaid : Prop := recipeLinesRow.holds Try.pinned (OpenSpec.ofChange recipeLinesSpec)

/-- ITS FALSE NEIGHBOUR: 'it returns false'. Refute it at one input. -/
def recipeLinesWrong : ChangeSpec := { name := "recipeLines", fn := fun _ => fun
  | [d] => { results := [.lit (.bool false)], args := [d] }
  | _ => none }
def RecipeLinesWrongFalsely : Prop := recipeLinesRow.holds Try.pinned (OpenSpec.ofChange recipeLinesWrong)

/- THE SECOND FORM. 'bulk': how many values and letters a reading holds, each counted each time it is reached (what is shared counts as often as it is met; a slice's spare places count too). A statement '..UptoSaid' is the law's where the arguments, and the package variables that the reading takes, are together of bulk at most 1048576: NARROWER than '..Said'. Prove '..Said' where nothing that the law and all that it calls make is longer than what came in: it says more and counts as full. Else prove '..UptoSaid'. A law counts once. -/
mutual
def uptoBulk {H : Type} : DataW H → Nat
  | .lit (.string bytes) => bytes.length + 1
  | .lit _ => 1
  | .nil => 1
  | .ptr d => uptoBulk d + 1
  | .slice elems spare => uptoBulkAll elems + uptoBulkAll spare + 1
  | .agg parts => uptoBulkAll parts + 1
  | .iface _ d => uptoBulk d + 1
  | .map entries => uptoBulkEntries entries + 1
  | .held _ => 1
def uptoBulkAll {H : Type} : List (DataW H) → Nat
  | [] => 0
  | d :: r => uptoBulk d + uptoBulkAll r
def uptoBulkEntries {H : Type} : List (Lit × DataW H) → Nat
  | [] => 0
  | x :: r => uptoBulkEntry x + uptoBulkEntries r
def uptoBulkEntry {H : Type} : Lit × DataW H → Nat
  | (.string bytes, d) => bytes.length + uptoBulk d + 1
  | (_, d) => uptoBulk d + 1
 end
def uptoSmall : (H : Type) → List (DataW H) → Bool := fun _ ds => decide (uptoBulkAll ds ≤ 1048576)
def OpenSpec.upto (s : _root_.Go.ChangeSpec) : _root_.Go.OpenSpec := { _root_.Go.OpenSpec.ofChange s with cond := some uptoSmall }

/-- 'manciplelaw04.RecipeAll', WHERE WHAT IT READS IS OF BULK AT MOST 1048576: true; the input reads as it did. -/
def recipeAllUptoRow : OpenClaim := { program := "ytfkomfhnkpecfaa", sum := "8a9d0080b76298d690ec0c1ef44c8c80b9ddff4a961d277be83b2c8c5bbee4e8", func := "manciple/manciplelaw04.RecipeAll", spec := "recipeAll", apart := false, narrowed := true }
def RecipeAllUptoSaid : Prop := recipeAllUptoRow.holds Try.pinned (OpenSpec.upto recipeAllSpec)

/-- 'manciplelaw04.RecipeMany', WHERE WHAT IT READS IS OF BULK AT MOST 1048576: true; the input reads as it did. -/
def recipeManyUptoRow : OpenClaim := { program := "ytfkomfhnkpecfaa", sum := "8a9d0080b76298d690ec0c1ef44c8c80b9ddff4a961d277be83b2c8c5bbee4e8", func := "manciple/manciplelaw04.RecipeMany", spec := "recipeMany", apart := false, narrowed := true }
def RecipeManyUptoSaid : Prop := recipeManyUptoRow.holds Try.pinned (OpenSpec.upto recipeManySpec)

/-- 'manciplelaw04.RecipeOwn', WHERE WHAT IT READS IS OF BULK AT MOST 1048576: true; the input reads as it did. -/
def recipeOwnUptoRow : OpenClaim := { program := "ytfkomfhnkpecfaa", sum := "8a9d0080b76298d690ec0c1ef44c8c80b9ddff4a961d277be83b2c8c5bbee4e8", func := "manciple/manciplelaw04.RecipeOwn", spec := "recipeOwn", apart := false, narrowed := true }
def RecipeOwnUptoSaid : Prop := recipeOwnUptoRow.holds Try.pinned (OpenSpec.upto recipeOwnSpec)

/-- 'manciplelaw04.RecipeLines', WHERE WHAT IT READS IS OF BULK AT MOST 1048576: true; the input reads as it did. -/
def recipeLinesUptoRow : OpenClaim := { program := "ytfkomfhnkpecfaa", sum := "8a9d0080b76298d690ec0c1ef44c8c80b9ddff4a961d277be83b2c8c5bbee4e8", func := "manciple/manciplelaw04.RecipeLines", spec := "recipeLines", apart := false, narrowed := true }
def RecipeLinesUptoSaid : Prop := recipeLinesUptoRow.holds Try.pinned (OpenSpec.upto recipeLinesSpec)

end Rows
end Go.Proofs.Ytfkomfhnkpecfaa
