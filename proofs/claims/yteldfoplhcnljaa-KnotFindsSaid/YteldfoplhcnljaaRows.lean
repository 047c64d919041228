/-
  No cell of these rows narrows 'for every input' (looked for: loops, veiled, ifaces, maps, wideKeys, modest, calm, conditions, laid).
  DERIVED. THE GIVEN ROWS OF THIS SEAT. 5 by the template 'for every input the law returns true; each argument reads behind the call as it read before'; 0 by the template 'total and deterministic' (their statements: YteldfoplhcnljaaTotals.lean).
  GIVEN WITH THE SEED: the statements are not yours to turn. If you find one false, say at which input.
  Laid BY PROGRAM, IN A SANDBOX (cutbox-rows.mjs): the forced cells as the released guide's own fill.sh prints them over the translation cc2cbc5e28e0adde… (all of the seat's roots in one cut). By AI agents, Wed Nov 11 2026. No macro, syntax, notation, axiom, sorry.
-/
import Derived.Test.YteldfoplhcnljaaChecked
import GoSem.Claim
import GoSem.ClaimJoined
import GoSem.ClaimMapViews
import Derived.JoinedTies
import Derived.KernelRfl
namespace Go.Proofs.Yteldfoplhcnljaa
/- THE CELL 'sum', in the pinned program and in every row, IS THE sha256 OF THE DUMP (.gsa) THAT YteldfoplhcnljaaProg.lean LOADS. Nothing in Lean hashes anything: it is a label: what it is worth is what the hold of that sum in a sandbox is worth. -/
noncomputable def Try.pinned : Pinned := { name := "yteldfoplhcnljaa", sum := "cc2cbc5e28e0addea478acc81e7b9ab2766787f33752fc4b04c95de1d2ffa5e8", checked := Try.checked }
namespace Rows
def none {H : Type} : Left H := { results := [], args := [] }

/-- 'manciplelaw14.KnotFinds': WHATEVER THE INPUT: true; the input reads as it did. -/
def knotFindsSpec : ChangeSpec := { name := "knotFinds", fn := fun _ => fun
  | [d1, d2, d3] => { results := [.lit (.bool true)], args := [d1, d2, d3] }
  | _ => none }
def knotFindsRow : OpenClaim := { program := "yteldfoplhcnljaa", sum := "cc2cbc5e28e0addea478acc81e7b9ab2766787f33752fc4b04c95de1d2ffa5e8", func := "manciple/manciplelaw14.KnotFinds", spec := "knotFinds", unfollowed := true, recurses := true, apart := false }
def KnotFindsSaid : Prop := knotFindsRow.holds Try.pinned (OpenSpec.ofChange knotFindsSpec)

/-- ITS FALSE NEIGHBOUR: 'it returns false'. Refute it at one input. -/
def knotFindsWrong : ChangeSpec := { name := "knotFinds", fn := fun _ => fun
  | [d1, d2, d3] => { results := [.lit (.bool false)], args := [d1, d2, d3] }
  | _ => none }
def KnotFindsWrongFalsely : Prop := knotFindsRow.holds Try.pinned (OpenSpec.ofChange knotFindsWrong)

/-- 'manciplelaw14.KnotRings': WHATEVER THE INPUT: true; the input reads as it did. -/
def knotRingsSpec : ChangeSpec := { name := "knotRings", fn := fun _ => fun
  | [d1, d2] => { results := [.lit (.bool true)], args := [d1, d2] }
  | _ => none }
def knotRingsRow : OpenClaim := { program := "yteldfoplhcnljaa", sum := "cc2cbc5e28e0addea478acc81e7b9ab2766787f33752fc4b04c95de1d2ffa5e8", func := "manciple/manciplelaw14.KnotRings", spec := "knotRings", unfollowed := true, recurses := true, apart := false }
def KnotRingsSaid : Prop := knotRingsRow.holds Try.pinned (OpenSpec.ofChange knotRingsSpec)

/-- ITS FALSE NEIGHBOUR: 'it returns false'. Refute it at one input. -/
def knotRingsWrong : ChangeSpec := { name := "knotRings", fn := fun _ => fun
  | [d1, d2] => { results := [.lit (.bool false)], args := [d1, d2] }
  | _ => none }
def KnotRingsWrongFalsely : Prop := knotRingsRow.holds Try.pinned (OpenSpec.ofChange knotRingsWrong)

/-- 'manciplelaw14.KnotNone': WHATEVER THE INPUT: true; the input reads as it did. -/
def knotNoneSpec : ChangeSpec := { name := "knotNone", fn := fun _ => fun
  | [d1, d2] => { results := [.lit (.bool true)], args := [d1, d2] }
  | _ => none }
def knotNoneRow : OpenClaim := { program := "yteldfoplhcnljaa", sum := "cc2cbc5e28e0addea478acc81e7b9ab2766787f33752fc4b04c95de1d2ffa5e8", func := "manciple/manciplelaw14.KnotNone", spec := "knotNone", unfollowed := true, recurses := true, apart := false }
def KnotNoneSaid : Prop := knotNoneRow.holds Try.pinned (OpenSpec.ofChange knotNoneSpec)

/-- ITS FALSE NEIGHBOUR: 'it returns false'. Refute it at one input. -/
def knotNoneWrong : ChangeSpec := { name := "knotNone", fn := fun _ => fun
  | [d1, d2] => { results := [.lit (.bool false)], args := [d1, d2] }
  | _ => none }
def KnotNoneWrongFalsely : Prop := knotNoneRow.holds Try.pinned (OpenSpec.ofChange knotNoneWrong)

/-- 'manciplelaw14.KnotVictims': WHATEVER THE INPUT: true; the input reads as it did. -/
def knotVictimsSpec : ChangeSpec := { name := "knotVictims", fn := fun _ => fun
  | [d1, d2] => { results := [.lit (.bool true)], args := [d1, d2] }
  | _ => none }
def knotVictimsRow : OpenClaim := { program := "yteldfoplhcnljaa", sum := "cc2cbc5e28e0addea478acc81e7b9ab2766787f33752fc4b04c95de1d2ffa5e8", func := "manciple/manciplelaw14.KnotVictims", spec := "knotVictims", unfollowed := true, recurses := true, apart := false }
def KnotVictimsSaid : Prop := knotVictimsRow.holds Try.pinned (OpenSpec.ofChange knotVictimsSpec)

/-- ITS FALSE NEIGHBOUR: 'it returns false'. Refute it at one input. -/
def knotVictimsWrong : ChangeSpec := { name := "knotVictims", fn := fun _ => fun
  | [d1, d2] => { results := [.lit (.bool false)], args := [d1, d2] }
  | _ => none }
def KnotVictimsWrongFalsely : Prop := knotVictimsRow.holds Try.pinned (OpenSpec.ofChange knotVictimsWrong)

/-- 'manciplelaw14.KnotMore': WHATEVER THE INPUT: true; the input reads as it did. -/
def knotMoreSpec : ChangeSpec := { name := "knotMore", fn := fun _ => fun
  | [d1, d2, d3] => { results := [.lit (.bool true)], args := [d1, d2, d3] }
  | _ => none }
def knotMoreRow : OpenClaim := { program := "yteldfoplhcnljaa", sum := "cc2cbc5e28e0addea478acc81e7b9ab2766787f33752fc4b04c95de1d2ffa5e8", func := "manciple/manciplelaw14.KnotMore", spec := "knotMore", unfollowed := true, recurses := true, apart := false }
def KnotMoreSaid : Prop := knotMoreRow.holds Try.pinned (OpenSpec.ofChange knotMoreSpec)

/-- ITS FALSE NEIGHBOUR: 'it returns false'. Refute it at one input. -/
def knotMoreWrong : ChangeSpec := { name := "knotMore", fn := fun _ => fun
  | [d1, d2, d3] => { results := [.lit (.bool false)], args := [d1, d2, d3] }
  | _ => none }
def KnotMoreWrongFalsely : Prop := knotMoreRow.holds Try.pinned (OpenSpec.ofChange knotMoreWrong)

/- THE SECOND FORM. 'bulk': how many values and letters a reading holds, each counted each time it is reached (what is shared counts as often as it is met; a slice's spare places count too). A statement '..UptoSaid' is the law's where the arguments, and the package variables that the reading takes, are together of bulk at most 1048576: NARROWER than '..Said'. Prove '..Said' where nothing that the law and all that it calls make is longer than what came in: it says more and counts as full. Else prove '..UptoSaid'. A law counts once. -/
mutual
def uptoBulk {H : Type} : DataW H → Nat
  | .lit (.string bytes) => bytes.length + 1
  | .lit _ => 1
  | .nil => 1
  | .ptr d => uptoBulk d + 1
  | .slice elems spare => uptoBulkAll elems + uptoBulkAll spare + 1
  | .agg parts => uptoBulkAll parts + 1
  | .iface _ d => uptoBulk d + 1
  | .map entries => uptoBulkEntries entries + 1
  | .held _ => 1
def uptoBulkAll {H : Type} : List (DataW H) → Nat
  | [] => 0
  | d :: r => uptoBulk d + uptoBulkAll r
def uptoBulkEntries {H : Type} : List (Lit × DataW H) → Nat
  | [] => 0
  | x :: r => uptoBulkEntry x + uptoBulkEntries r
def uptoBulkEntry {H : Type} : Lit × DataW H → Nat
  | (.string bytes, d) => bytes.length + uptoBulk d + 1
  | (_, d) => uptoBulk d + 1
 end
def uptoSmall : (H : Type) → List (DataW H) → Bool := fun _ ds => decide (uptoBulkAll ds ≤ 1048576)
def OpenSpec.upto (s : _root_.Go.ChangeSpec) : _root_.Go.OpenSpec := { _root_.Go.OpenSpec.ofChange s with cond := some uptoSmall }

/-- 'manciplelaw14.KnotFinds', WHERE WHAT IT READS IS OF BULK AT MOST 1048576: true; the input reads as it did. -/
def knotFindsUptoRow : OpenClaim := { program := "yteldfoplhcnljaa", sum := "cc2cbc5e28e0addea478acc81e7b9ab2766787f33752fc4b04c95de1d2ffa5e8", func := "manciple/manciplelaw14.KnotFinds", spec := "knotFinds", unfollowed := true, recurses := true, apart := false, narrowed := true }
def KnotFindsUptoSaid : Prop := knotFindsUptoRow.holds Try.pinned (OpenSpec.upto knotFindsSpec)

/-- 'manciplelaw14.KnotRings', WHERE WHAT IT READS IS OF BULK AT MOST 1048576: true; the input reads as it did. -/
def knotRingsUptoRow : OpenClaim := { program := "yteldfoplhcnljaa", sum := "cc2cbc5e28e0addea478acc81e7b9ab2766787f33752fc4b04c95de1d2ffa5e8", func := "manciple/manciplelaw14.KnotRings", spec := "knotRings", unfollowed := true, recurses := true, apart := false, narrowed := true }
def KnotRingsUptoSaid : Prop := knotRingsUptoRow.holds Try.pinned (OpenSpec.upto knotRingsSpec)

/-- 'manciplelaw14.KnotNone', WHERE WHAT IT READS IS OF BULK AT MOST 1048576: true; the input reads as it did. -/
def knotNoneUptoRow : OpenClaim := { program := "yteldfoplhcnljaa", sum := "cc2cbc5e28e0addea478acc81e7b9ab2766787f33752fc4b04c95de1d2ffa5e8", func := "manciple/manciplelaw14.KnotNone", spec := "knotNone", unfollowed := true, recurses := true, apart := false, narrowed := true }
def KnotNoneUptoSaid : Prop := knotNoneUptoRow.holds Try.pinned (OpenSpec.upto knotNoneSpec)

/-- 'manciplelaw14.KnotVictims', WHERE WHAT IT READS IS OF BULK AT MOST 1048576: true; the input reads as it did. -/
def knotVictimsUptoRow : OpenClaim := { program := "yteldfoplhcnljaa", sum := "cc2cbc5e28e0addea478acc81e7b9ab2766787f33752fc4b04c95de1d2ffa5e8", func := "manciple/manciplelaw14.KnotVictims", spec := "knotVictims", unfollowed := true, recurses := true, apart := false, narrowed := true }
def KnotVictimsUptoSaid : Prop := knotVictimsUptoRow.holds Try.pinned (OpenSpec.upto knotVictimsSpec)

/-- 'manciplelaw14.KnotMore', WHERE WHAT IT READS IS OF BULK AT MOST 1048576: true; the input reads as it did. -/
def knotMoreUptoRow : OpenClaim := { program := "yteldfoplhcnljaa", sum := "cc2cbc5e28e0addea478acc81e7b9ab2766787f33752fc4b04c95de1d2ffa5e8", func := "manciple/manciplelaw14.KnotMore", spec := "knotMore", unfollowed := true, recurses := true, apart := false, narrowed := true }
def KnotMoreUptoSaid : Prop := knotMoreUptoRow.holds Try.pinned (OpenSpec.upto knotMoreSpec)

end Rows
end Go.Proofs.Yteldfoplhcnljaa
