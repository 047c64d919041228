/-
  No cell of these rows narrows 'for every input' (looked for: loops, veiled, ifaces, maps, wideKeys, modest, calm, conditions, laid).
  DERIVED. THE GIVEN ROWS OF THIS SEAT. 5 by the template 'for every input the law returns true; each argument reads behind the call as it read before'; 0 by the template 'total and deterministic' (their statements: YtkhjkmelajlpeaaTotals.lean).
  GIVEN WITH THE SEED: the statements are not yours to turn. If you find one false, say at which input.
  Laid BY PROGRAM, IN A SANDBOX (cutbox-rows.mjs): the forced cells as the released guide's own fill.sh prints them over the translation 00057506322c4e39… (all of the seat's roots in one cut). By AI agents, Wed Nov 11 2026. No macro, syntax, notation, axiom, sorry.
-/
import Derived.Test.YtkhjkmelajlpeaaChecked
import GoSem.Claim
import GoSem.ClaimJoined
import GoSem.ClaimMapViews
import Derived.JoinedTies
import Derived.KernelRfl
namespace Go.Proofs.Ytkhjkmelajlpeaa
/- THE CELL 'sum', in the pinned program and in every row, IS THE sha256 OF THE DUMP (.gsa) THAT YtkhjkmelajlpeaaProg.lean LOADS. Nothing in Lean hashes anything: it is a label: what it is worth is what the hold of that sum in a sandbox is worth. -/
noncomputable def Try.pinned : Pinned := { name := "ytkhjkmelajlpeaa", sum := "00057506322c4e39c93a3aa9e249f27f757644a357f7c1dbcf1ac89e67a85b01", checked := Try.checked }
namespace Rows
def none {H : Type} : Left H := { results := [], args := [] }

/-- 'manciplelaw07.StripLays': WHATEVER THE INPUT: true; the input reads as it did. -/
def stripLaysSpec : ChangeSpec := { name := "stripLays", fn := fun _ => fun
  | [d1, d2] => { results := [.lit (.bool true)], args := [d1, d2] }
  | _ => none }
def stripLaysRow : OpenClaim := { program := "ytkhjkmelajlpeaa", sum := "00057506322c4e39c93a3aa9e249f27f757644a357f7c1dbcf1ac89e67a85b01", func := "manciple/manciplelaw07.StripLays", spec := "stripLays", unfollowed := true, recurses := true, apart := false }
def StripLaysSaid : Prop := stripLaysRow.holds Try.pinned (OpenSpec.ofChange stripLaysSpec)

/-- ITS FALSE NEIGHBOUR: 'it returns false'. Refute it at one input. -/
def stripLaysWrong : ChangeSpec := { name := "stripLays", fn := fun _ => fun
  | [d1, d2] => { results := [.lit (.bool false)], args := [d1, d2] }
  | _ => none }
def StripLaysWrongFalsely : Prop := stripLaysRow.holds Try.pinned (OpenSpec.ofChange stripLaysWrong)

/-- 'manciplelaw07.StripReads': WHATEVER THE INPUT: true; the input reads as it did. -/
def stripReadsSpec : ChangeSpec := { name := "stripReads", fn := fun _ => fun
  | [d] => { results := [.lit (.bool true)], args := [d] }
  | _ => none }
def stripReadsRow : OpenClaim := { program := "ytkhjkmelajlpeaa", sum := "00057506322c4e39c93a3aa9e249f27f757644a357f7c1dbcf1ac89e67a85b01", func := "manciple/manciplelaw07.StripReads", spec := "stripReads", unfollowed := true, recurses := true, apart := false }
def StripReadsSaid : Prop := stripReadsRow.holds Try.pinned (OpenSpec.ofChange stripReadsSpec)

/-- ITS FALSE NEIGHBOUR: 'it returns false'. Refute it at one input. -/
def stripReadsWrong : ChangeSpec := { name := "stripReads", fn := fun _ => fun
  | [d] => { results := [.lit (.bool false)], args := [d] }
  | _ => none }
def StripReadsWrongFalsely : Prop := stripReadsRow.holds Try.pinned (OpenSpec.ofChange stripReadsWrong)

/-- 'manciplelaw07.StripBack': WHATEVER THE INPUT: true; the input reads as it did. -/
def stripBackSpec : ChangeSpec := { name := "stripBack", fn := fun _ => fun
  | [d1, d2] => { results := [.lit (.bool true)], args := [d1, d2] }
  | _ => none }
def stripBackRow : OpenClaim := { program := "ytkhjkmelajlpeaa", sum := "00057506322c4e39c93a3aa9e249f27f757644a357f7c1dbcf1ac89e67a85b01", func := "manciple/manciplelaw07.StripBack", spec := "stripBack", unfollowed := true, recurses := true, apart := false }
def StripBackSaid : Prop := stripBackRow.holds Try.pinned (OpenSpec.ofChange stripBackSpec)

/-- ITS FALSE NEIGHBOUR: 'it returns false'. Refute it at one input. -/
def stripBackWrong : ChangeSpec := { name := "stripBack", fn := fun _ => fun
  | [d1, d2] => { results := [.lit (.bool false)], args := [d1, d2] }
  | _ => none }
def StripBackWrongFalsely : Prop := stripBackRow.holds Try.pinned (OpenSpec.ofChange stripBackWrong)

/-- 'manciplelaw07.StripFronts': WHATEVER THE INPUT: true; the input reads as it did. -/
def stripFrontsSpec : ChangeSpec := { name := "stripFronts", fn := fun _ => fun
  | [d1, d2, d3, d4] => { results := [.lit (.bool true)], args := [d1, d2, d3, d4] }
  | _ => none }
def stripFrontsRow : OpenClaim := { program := "ytkhjkmelajlpeaa", sum := "00057506322c4e39c93a3aa9e249f27f757644a357f7c1dbcf1ac89e67a85b01", func := "manciple/manciplelaw07.StripFronts", spec := "stripFronts", unfollowed := true, recurses := true, apart := false }
def StripFrontsSaid : Prop := stripFrontsRow.holds Try.pinned (OpenSpec.ofChange stripFrontsSpec)

/-- ITS FALSE NEIGHBOUR: 'it returns false'. Refute it at one input. -/
def stripFrontsWrong : ChangeSpec := { name := "stripFronts", fn := fun _ => fun
  | [d1, d2, d3, d4] => { results := [.lit (.bool false)], args := [d1, d2, d3, d4] }
  | _ => none }
def StripFrontsWrongFalsely : Prop := stripFrontsRow.holds Try.pinned (OpenSpec.ofChange stripFrontsWrong)

/-- 'manciplelaw07.StripCuts': WHATEVER THE INPUT: true; the input reads as it did. -/
def stripCutsSpec : ChangeSpec := { name := "stripCuts", fn := fun _ => fun
  | [d1, d2] => { results := [.lit (.bool true)], args := [d1, d2] }
  | _ => none }
def stripCutsRow : OpenClaim := { program := "ytkhjkmelajlpeaa", sum := "00057506322c4e39c93a3aa9e249f27f757644a357f7c1dbcf1ac89e67a85b01", func := "manciple/manciplelaw07.StripCuts", spec := "stripCuts", unfollowed := true, recurses := true, apart := false }
def StripCutsSaid : Prop := stripCutsRow.holds Try.pinned (OpenSpec.ofChange stripCutsSpec)

/-- ITS FALSE NEIGHBOUR: 'it returns false'. Refute it at one input. -/
def stripCutsWrong : ChangeSpec := { name := "stripCuts", fn := fun _ => fun
  | [d1, d2] => { results := [.lit (.bool false)], args := [d1, d2] }
  | _ => none }
def StripCutsWrongFalsely : Prop := stripCutsRow.holds Try.pinned (OpenSpec.ofChange stripCutsWrong)

/- THE SECOND FORM. 'bulk': how many values and letters a reading holds, each counted each time it is reached (what is shared counts as often as it is met; a slice's spare places count too). A statement '..UptoSaid' is the law's where the arguments, and the package variables that the reading takes, are together of bulk at most 1048576: NARROWER than '..Said'. Prove '..Said' where nothing that the law and all that it calls make is longer than what came in: it says more and counts as full. Else prove '..UptoSaid'. A law counts once. -/
mutual
def uptoBulk {H : Type} : DataW H → Nat
  | .lit (.string bytes) => bytes.length + 1
  | .lit _ => 1
  | .nil => 1
  | .ptr d => uptoBulk d + 1
  | .slice elems spare => uptoBulkAll elems + uptoBulkAll spare + 1
  | .agg parts => uptoBulkAll parts + 1
  | .iface _ d => uptoBulk d + 1
  | .map entries => uptoBulkEntries entries + 1
  | .held _ => 1
def uptoBulkAll {H : Type} : List (DataW H) → Nat
  | [] => 0
  | d :: r => uptoBulk d + uptoBulkAll r
def uptoBulkEntries {H : Type} : List (Lit × DataW H) → Nat
  | [] => 0
  | x :: r => uptoBulkEntry x + uptoBulkEntries r
def uptoBulkEntry {H : Type} : Lit × DataW H → Nat
  | (.string bytes, d) => bytes.length + uptoBulk d + 1
  | (_, d) => uptoBulk d + 1
 end
def uptoSmall : (H : Type) → List (DataW H) → Bool := fun _ ds => decide (uptoBulkAll ds ≤ 1048576)
def OpenSpec.upto (s : _root_.Go.ChangeSpec) : _root_.Go.OpenSpec := { _root_.Go.OpenSpec.ofChange s with cond := some uptoSmall }

/-- 'manciplelaw07.StripLays', WHERE WHAT IT READS IS OF BULK AT MOST 1048576: true; the input reads as it did. -/
def stripLaysUptoRow : OpenClaim := { program := "ytkhjkmelajlpeaa", sum := "00057506322c4e39c93a3aa9e249f27f757644a357f7c1dbcf1ac89e67a85b01", func := "manciple/manciplelaw07.StripLays", spec := "stripLays", unfollowed := true, recurses := true, apart := false, narrowed := true }
def StripLaysUptoSaid : Prop := stripLaysUptoRow.holds Try.pinned (OpenSpec.upto stripLaysSpec)

/-- 'manciplelaw07.StripReads', WHERE WHAT IT READS IS OF BULK AT MOST 1048576: true; the input reads as it did. -/
def stripReadsUptoRow : OpenClaim := { program := "ytkhjkmelajlpeaa", sum := "00057506322c4e39c93a3aa9e249f27f757644a357f7c1dbcf1ac89e67a85b01", func := "manciple/manciplelaw07.StripReads", spec := "stripReads", unfollowed := true, recurses := true, apart := false, narrowed := true }
def StripReadsUptoSaid : Prop := stripReadsUptoRow.holds Try.pinned (OpenSpec.upto stripReadsSpec)

/-- 'manciplelaw07.StripBack', WHERE WHAT IT READS IS OF BULK AT MOST 1048576: true; the input reads as it did. -/
def stripBackUptoRow : OpenClaim := { program := "ytkhjkmelajlpeaa", sum := "00057506322c4e39c93a3aa9e249f27f757644a357f7c1dbcf1ac89e67a85b01", func := "manciple/manciplelaw07.StripBack", spec := "stripBack", unfollowed := true, recurses := true, apart := false, narrowed := true }
def StripBackUptoSaid : Prop := stripBackUptoRow.holds Try.pinned (OpenSpec.upto stripBackSpec)

/-- 'manciplelaw07.StripFronts', WHERE WHAT IT READS IS OF BULK AT MOST 1048576: true; the input reads as it did. -/
def stripFrontsUptoRow : OpenClaim := { program := "ytkhjkmelajlpeaa", sum := "00057506322c4e39c93a3aa9e249f27f757644a357f7c1dbcf1ac89e67a85b01", func := "manciple/manciplelaw07.StripFronts", spec := "stripFronts", unfollowed := true, recurses := true, apart := false, narrowed := true }
def StripFrontsUptoSaid : Prop := stripFrontsUptoRow.holds Try.pinned (OpenSpec.upto stripFrontsSpec)

/-- 'manciplelaw07.StripCuts', WHERE WHAT IT READS IS OF BULK AT MOST 1048576: true; the input reads as it did. -/
def stripCutsUptoRow : OpenClaim := { program := "ytkhjkmelajlpeaa", sum := "00057506322c4e39c93a3aa9e249f27f757644a357f7c1dbcf1ac89e67a85b01", func := "manciple/manciplelaw07.StripCuts", spec := "stripCuts", unfollowed := true, recurses := true, apart := false, narrowed := true }
def StripCutsUptoSaid : Prop := stripCutsUptoRow.holds Try.pinned (OpenSpec.upto stripCutsSpec)

end Rows
end Go.Proofs.Ytkhjkmelajlpeaa
