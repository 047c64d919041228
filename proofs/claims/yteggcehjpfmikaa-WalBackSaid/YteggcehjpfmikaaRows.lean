/-
  No cell of these rows narrows 'for every input' (looked for: loops, veiled, ifaces, maps, wideKeys, modest, calm, conditions, laid).
  DERIVED. THE GIVEN ROWS OF THIS SEAT. 5 by the template 'for every input the law returns true; each argument reads behind the call as it read before'; 0 by the template 'total and deterministic' (their statements: YteggcehjpfmikaaTotals.lean).
  GIVEN WITH THE SEED: the statements are not yours to turn. If you find one false, say at which input.
  Laid BY PROGRAM, IN A SANDBOX (cutbox-rows.mjs): the forced cells as the released guide's own fill.sh prints them over the translation 6d529935dd2f3899… (all of the seat's roots in one cut). By AI agents, Wed Nov 11 2026. No macro, syntax, notation, axiom, sorry.
-/
import Derived.Test.YteggcehjpfmikaaChecked
import GoSem.Claim
import GoSem.ClaimJoined
import GoSem.ClaimMapViews
import Derived.JoinedTies
import Derived.KernelRfl
namespace Go.Proofs.Yteggcehjpfmikaa
/- THE CELL 'sum', in the pinned program and in every row, IS THE sha256 OF THE DUMP (.gsa) THAT YteggcehjpfmikaaProg.lean LOADS. Nothing in Lean hashes anything: it is a label: what it is worth is what the hold of that sum in a sandbox is worth. -/
noncomputable def Try.pinned : Pinned := { name := "yteggcehjpfmikaa", sum := "6d529935dd2f3899fc26ab074be41d4e68d217fe25ef56f21fa45250aa0afe5a", checked := Try.checked }
namespace Rows
def none {H : Type} : Left H := { results := [], args := [] }

/-- 'manciplelaw08.WalLasts': WHATEVER THE INPUT: true; the input reads as it did. -/
def walLastsSpec : ChangeSpec := { name := "walLasts", fn := fun _ => fun
  | [d1, d2, d3, d4, d5, d6] => { results := [.lit (.bool true)], args := [d1, d2, d3, d4, d5, d6] }
  | _ => none }
def walLastsRow : OpenClaim := { program := "yteggcehjpfmikaa", sum := "6d529935dd2f3899fc26ab074be41d4e68d217fe25ef56f21fa45250aa0afe5a", func := "manciple/manciplelaw08.WalLasts", spec := "walLasts", unfollowed := true, recurses := true, plainKeys := false, apart := false }
def WalLastsSaid : Prop := walLastsRow.holds Try.pinned (OpenSpec.ofChange walLastsSpec)

/-- ITS FALSE NEIGHBOUR: 'it returns false'. Refute it at one input. -/
def walLastsWrong : ChangeSpec := { name := "walLasts", fn := fun _ => fun
  | [d1, d2, d3, d4, d5, d6] => { results := [.lit (.bool false)], args := [d1, d2, d3, d4, d5, d6] }
  | _ => none }
def WalLastsWrongFalsely : Prop := walLastsRow.holds Try.pinned (OpenSpec.ofChange walLastsWrong)

/-- 'manciplelaw08.WalBack': WHATEVER THE INPUT: true; the input reads as it did. -/
def walBackSpec : ChangeSpec := { name := "walBack", fn := fun _ => fun
  | [d1, d2] => { results := [.lit (.bool true)], args := [d1, d2] }
  | _ => none }
def walBackRow : OpenClaim := { program := "yteggcehjpfmikaa", sum := "6d529935dd2f3899fc26ab074be41d4e68d217fe25ef56f21fa45250aa0afe5a", func := "manciple/manciplelaw08.WalBack", spec := "walBack", unfollowed := true, recurses := true, plainKeys := false, apart := false }
def WalBackSaid : Prop := walBackRow.holds Try.pinned (OpenSpec.ofChange walBackSpec)

/-- ITS FALSE NEIGHBOUR: 'it returns false'. Refute it at one input. -/
def walBackWrong : ChangeSpec := { name := "walBack", fn := fun _ => fun
  | [d1, d2] => { results := [.lit (.bool false)], args := [d1, d2] }
  | _ => none }
def WalBackWrongFalsely : Prop := walBackRow.holds Try.pinned (OpenSpec.ofChange walBackWrong)

/-- 'manciplelaw08.WalRoom': WHATEVER THE INPUT: true; the input reads as it did. -/
def walRoomSpec : ChangeSpec := { name := "walRoom", fn := fun _ => fun
  | [d1, d2, d3, d4] => { results := [.lit (.bool true)], args := [d1, d2, d3, d4] }
  | _ => none }
def walRoomRow : OpenClaim := { program := "yteggcehjpfmikaa", sum := "6d529935dd2f3899fc26ab074be41d4e68d217fe25ef56f21fa45250aa0afe5a", func := "manciple/manciplelaw08.WalRoom", spec := "walRoom", unfollowed := true, recurses := true, plainKeys := false, apart := false }
def WalRoomSaid : Prop := walRoomRow.holds Try.pinned (OpenSpec.ofChange walRoomSpec)

/-- ITS FALSE NEIGHBOUR: 'it returns false'. Refute it at one input. -/
def walRoomWrong : ChangeSpec := { name := "walRoom", fn := fun _ => fun
  | [d1, d2, d3, d4] => { results := [.lit (.bool false)], args := [d1, d2, d3, d4] }
  | _ => none }
def WalRoomWrongFalsely : Prop := walRoomRow.holds Try.pinned (OpenSpec.ofChange walRoomWrong)

/-- 'manciplelaw08.WalRenews': WHATEVER THE INPUT: true; the input reads as it did. -/
def walRenewsSpec : ChangeSpec := { name := "walRenews", fn := fun _ => fun
  | [d1, d2, d3] => { results := [.lit (.bool true)], args := [d1, d2, d3] }
  | _ => none }
def walRenewsRow : OpenClaim := { program := "yteggcehjpfmikaa", sum := "6d529935dd2f3899fc26ab074be41d4e68d217fe25ef56f21fa45250aa0afe5a", func := "manciple/manciplelaw08.WalRenews", spec := "walRenews", unfollowed := true, recurses := true, plainKeys := false, apart := false }
def WalRenewsSaid : Prop := walRenewsRow.holds Try.pinned (OpenSpec.ofChange walRenewsSpec)

/-- ITS FALSE NEIGHBOUR: 'it returns false'. Refute it at one input. -/
def walRenewsWrong : ChangeSpec := { name := "walRenews", fn := fun _ => fun
  | [d1, d2, d3] => { results := [.lit (.bool false)], args := [d1, d2, d3] }
  | _ => none }
def WalRenewsWrongFalsely : Prop := walRenewsRow.holds Try.pinned (OpenSpec.ofChange walRenewsWrong)

/-- 'manciplelaw08.WalMarks': WHATEVER THE INPUT: true; the input reads as it did. -/
def walMarksSpec : ChangeSpec := { name := "walMarks", fn := fun _ => fun
  | [d1, d2, d3, d4] => { results := [.lit (.bool true)], args := [d1, d2, d3, d4] }
  | _ => none }
def walMarksRow : OpenClaim := { program := "yteggcehjpfmikaa", sum := "6d529935dd2f3899fc26ab074be41d4e68d217fe25ef56f21fa45250aa0afe5a", func := "manciple/manciplelaw08.WalMarks", spec := "walMarks", unfollowed := true, recurses := true, plainKeys := false, apart := false }
def WalMarksSaid : Prop := walMarksRow.holds Try.pinned (OpenSpec.ofChange walMarksSpec)

/-- ITS FALSE NEIGHBOUR: 'it returns false'. Refute it at one input. -/
def walMarksWrong : ChangeSpec := { name := "walMarks", fn := fun _ => fun
  | [d1, d2, d3, d4] => { results := [.lit (.bool false)], args := [d1, d2, d3, d4] }
  | _ => none }
def WalMarksWrongFalsely : Prop := walMarksRow.holds Try.pinned (OpenSpec.ofChange walMarksWrong)

/- THE SECOND FORM. 'bulk': how many values and letters a reading holds, each counted each time it is reached (what is shared counts as often as it is met; a slice's spare places count too). A statement '..UptoSaid' is the law's where the arguments, and the package variables that the reading takes, are together of bulk at most 1048576: NARROWER than '..Said'. Prove '..Said' where nothing that the law and all that it calls make is longer than what came in: it says more and counts as full. Else prove '..UptoSaid'. A law counts once. -/
mutual
def uptoBulk {H : Type} : DataW H → Nat
  | .lit (.string bytes) => bytes.length + 1
  | .lit _ => 1
  | .nil => 1
  | .ptr d => uptoBulk d + 1
  | .slice elems spare => uptoBulkAll elems + uptoBulkAll spare + 1
  | .agg parts => uptoBulkAll parts + 1
  | .iface _ d => uptoBulk d + 1
  | .map entries => uptoBulkEntries entries + 1
  | .held _ => 1
def uptoBulkAll {H : Type} : List (DataW H) → Nat
  | [] => 0
  | d :: r => uptoBulk d + uptoBulkAll r
def uptoBulkEntries {H : Type} : List (Lit × DataW H) → Nat
  | [] => 0
  | x :: r => uptoBulkEntry x + uptoBulkEntries r
def uptoBulkEntry {H : Type} : Lit × DataW H → Nat
  | (.string bytes, d) => bytes.length + uptoBulk d + 1
  | (_, d) => uptoBulk d + 1
 end
def uptoSmall : (H : Type) → List (DataW H) → Bool := fun _ ds => decide (uptoBulkAll ds ≤ 1048576)
def OpenSpec.upto (s : _root_.Go.ChangeSpec) : _root_.Go.OpenSpec := { _root_.Go.OpenSpec.ofChange s with cond := some uptoSmall }

/-- 'manciplelaw08.WalLasts', WHERE WHAT IT READS IS OF BULK AT MOST 1048576: true; the input reads as it did. -/
def walLastsUptoRow : OpenClaim := { program := "yteggcehjpfmikaa", sum := "6d529935dd2f3899fc26ab074be41d4e68d217fe25ef56f21fa45250aa0afe5a", func := "manciple/manciplelaw08.WalLasts", spec := "walLasts", unfollowed := true, recurses := true, plainKeys := false, apart := false, narrowed := true }
def WalLastsUptoSaid : Prop := walLastsUptoRow.holds Try.pinned (OpenSpec.upto walLastsSpec)

/-- 'manciplelaw08.WalBack', WHERE WHAT IT READS IS OF BULK AT MOST 1048576: true; the input reads as it did. -/
def walBackUptoRow : OpenClaim := { program := "yteggcehjpfmikaa", sum := "6d529935dd2f3899fc26ab074be41d4e68d217fe25ef56f21fa45250aa0afe5a", func := "manciple/manciplelaw08.WalBack", spec := "walBack", unfollowed := true, recurses := true, plainKeys := false, apart := false, narrowed := true }
def WalBackUptoSaid : Prop := walBackUptoRow.holds Try.pinned (OpenSpec.upto walBackSpec)

/-- 'manciplelaw08.WalRoom', WHERE WHAT IT READS IS OF BULK AT MOST 1048576: true; the input reads as it did. -/
def walRoomUptoRow : OpenClaim := { program := "yteggcehjpfmikaa", sum := "6d529935dd2f3899fc26ab074be41d4e68d217fe25ef56f21fa45250aa0afe5a", func := "manciple/manciplelaw08.WalRoom", spec := "walRoom", unfollowed := true, recurses := true, plainKeys := false, apart := false, narrowed := true }
def WalRoomUptoSaid : Prop := walRoomUptoRow.holds Try.pinned (OpenSpec.upto walRoomSpec)

/-- 'manciplelaw08.WalRenews', WHERE WHAT IT READS IS OF BULK AT MOST 1048576: true; the input reads as it did. -/
def walRenewsUptoRow : OpenClaim := { program := "yteggcehjpfmikaa", sum := "6d529935dd2f3899fc26ab074be41d4e68d217fe25ef56f21fa45250aa0afe5a", func := "manciple/manciplelaw08.WalRenews", spec := "walRenews", unfollowed := true, recurses := true, plainKeys := false, apart := false, narrowed := true }
def WalRenewsUptoSaid : Prop := walRenewsUptoRow.holds Try.pinned (OpenSpec.upto walRenewsSpec)

/-- 'manciplelaw08.WalMarks', WHERE WHAT IT READS IS OF BULK AT MOST 1048576: true; the input reads as it did. -/
def walMarksUptoRow : OpenClaim := { program := "yteggcehjpfmikaa", sum := "6d529935dd2f3899fc26ab074be41d4e68d217fe25ef56f21fa45250aa0afe5a", func := "manciple/manciplelaw08.WalMarks", spec := "walMarks", unfollowed := true, recurses := true, plainKeys := false, apart := false, narrowed := true }
def WalMarksUptoSaid : Prop := walMarksUptoRow.holds Try.pinned (OpenSpec.upto walMarksSpec)

end Rows
end Go.Proofs.Yteggcehjpfmikaa
