/-
  No cell of these rows narrows 'for every input' (looked for: loops, veiled, ifaces, maps, wideKeys, modest, calm, conditions, laid).
  DERIVED. THE GIVEN ROWS OF THIS SEAT. 9 by the template 'for every input the law returns true; each argument reads behind the call as it read before'; 0 by the template 'total and deterministic' (their statements: YtgalgjmhdbncbaaTotals.lean).
  GIVEN WITH THE SEED: the statements are not yours to turn. If you find one false, say at which input.
  Laid BY PROGRAM, IN A SANDBOX (cutbox-rows.mjs): the forced cells as the released guide's own fill.sh prints them over the translation 273f009b2e7be778… (all of the seat's roots in one cut). By AI agents, Wed Nov 11 2026. No macro, syntax, notation, axiom, sorry.
-/
import Derived.Test.YtgalgjmhdbncbaaChecked
import GoSem.Claim
import GoSem.ClaimJoined
import GoSem.ClaimMapViews
import Derived.JoinedTies
import Derived.KernelRfl
namespace Go.Proofs.Ytgalgjmhdbncbaa
/- THE CELL 'sum', in the pinned program and in every row, IS THE sha256 OF THE DUMP (.gsa) THAT YtgalgjmhdbncbaaProg.lean LOADS. Nothing in Lean hashes anything: it is a label: what it is worth is what the hold of that sum in a sandbox is worth. -/
noncomputable def Try.pinned : Pinned := { name := "ytgalgjmhdbncbaa", sum := "273f009b2e7be77847193d1b8db128902439e132dbf14b8aff5668859bd10643", checked := Try.checked }
namespace Rows
def none {H : Type} : Left H := { results := [], args := [] }

/-- 'cachetlaw.Blocks': WHATEVER THE INPUT: true; the input reads as it did. -/
def blocksSpec : ChangeSpec := { name := "blocks", fn := fun _ => fun
  | [d1, d2, d3, d4] => { results := [.lit (.bool true)], args := [d1, d2, d3, d4] }
  | _ => none }
def blocksRow : OpenClaim := { program := "ytgalgjmhdbncbaa", sum := "273f009b2e7be77847193d1b8db128902439e132dbf14b8aff5668859bd10643", func := "cachet/cachetlaw.Blocks", spec := "blocks", apart := false }
def BlocksSaid : Prop := blocksRow.holds Try.pinned (OpenSpec.ofChange blocksSpec)

/-- ITS FALSE NEIGHBOUR: 'it returns false'. Refute it at one input. -/
def blocksWrong : ChangeSpec := { name := "blocks", fn := fun _ => fun
  | [d1, d2, d3, d4] => { results := [.lit (.bool false)], args := [d1, d2, d3, d4] }
  | _ => none }
def BlocksWrongFalsely : Prop := blocksRow.holds Try.pinned (OpenSpec.ofChange blocksWrong)

/-- 'cachetkeep.Permutes': WHATEVER THE INPUT: true; the input reads as it did. -/
def permutesSpec : ChangeSpec := { name := "permutes", fn := fun _ => fun
  | [d1, d2, d3, d4] => { results := [.lit (.bool true)], args := [d1, d2, d3, d4] }
  | _ => none }
def permutesRow : OpenClaim := { program := "ytgalgjmhdbncbaa", sum := "273f009b2e7be77847193d1b8db128902439e132dbf14b8aff5668859bd10643", func := "cachet/cachetkeep.Permutes", spec := "permutes", apart := false }
def PermutesSaid : Prop := permutesRow.holds Try.pinned (OpenSpec.ofChange permutesSpec)

/-- ITS FALSE NEIGHBOUR: 'it returns false'. Refute it at one input. -/
def permutesWrong : ChangeSpec := { name := "permutes", fn := fun _ => fun
  | [d1, d2, d3, d4] => { results := [.lit (.bool false)], args := [d1, d2, d3, d4] }
  | _ => none }
def PermutesWrongFalsely : Prop := permutesRow.holds Try.pinned (OpenSpec.ofChange permutesWrong)

/-- 'cachetkeep.Linear': WHATEVER THE INPUT: true; the input reads as it did. -/
def linearSpec : ChangeSpec := { name := "linear", fn := fun _ => fun
  | [d1, d2, d3, d4] => { results := [.lit (.bool true)], args := [d1, d2, d3, d4] }
  | _ => none }
def linearRow : OpenClaim := { program := "ytgalgjmhdbncbaa", sum := "273f009b2e7be77847193d1b8db128902439e132dbf14b8aff5668859bd10643", func := "cachet/cachetkeep.Linear", spec := "linear", apart := false }
def LinearSaid : Prop := linearRow.holds Try.pinned (OpenSpec.ofChange linearSpec)

/-- ITS FALSE NEIGHBOUR: 'it returns false'. Refute it at one input. -/
def linearWrong : ChangeSpec := { name := "linear", fn := fun _ => fun
  | [d1, d2, d3, d4] => { results := [.lit (.bool false)], args := [d1, d2, d3, d4] }
  | _ => none }
def LinearWrongFalsely : Prop := linearRow.holds Try.pinned (OpenSpec.ofChange linearWrong)

/-- 'cachetlaw.Seals': WHATEVER THE INPUT: true; the input reads as it did. -/
def sealsSpec : ChangeSpec := { name := "seals", fn := fun _ => fun
  | [d1, d2, d3, d4] => { results := [.lit (.bool true)], args := [d1, d2, d3, d4] }
  | _ => none }
def sealsRow : OpenClaim := { program := "ytgalgjmhdbncbaa", sum := "273f009b2e7be77847193d1b8db128902439e132dbf14b8aff5668859bd10643", func := "cachet/cachetlaw.Seals", spec := "seals", inPlace := ["internal/abi.NoEscape", "internal/bytealg.MakeNoZero"], apart := false }
def SealsSaid : Prop := sealsRow.holds Try.pinned (OpenSpec.ofChange sealsSpec)

/-- ITS FALSE NEIGHBOUR: 'it returns false'. Refute it at one input. -/
def sealsWrong : ChangeSpec := { name := "seals", fn := fun _ => fun
  | [d1, d2, d3, d4] => { results := [.lit (.bool false)], args := [d1, d2, d3, d4] }
  | _ => none }
def SealsWrongFalsely : Prop := sealsRow.holds Try.pinned (OpenSpec.ofChange sealsWrong)

/-- 'cachetlaw.Opens': WHATEVER THE INPUT: true; the input reads as it did. -/
def opensSpec : ChangeSpec := { name := "opens", fn := fun _ => fun
  | [d1, d2, d3, d4, d5, d6, d7] => { results := [.lit (.bool true)], args := [d1, d2, d3, d4, d5, d6, d7] }
  | _ => none }
def opensRow : OpenClaim := { program := "ytgalgjmhdbncbaa", sum := "273f009b2e7be77847193d1b8db128902439e132dbf14b8aff5668859bd10643", func := "cachet/cachetlaw.Opens", spec := "opens", inPlace := ["internal/abi.NoEscape", "internal/bytealg.MakeNoZero"], apart := false }
def OpensSaid : Prop := opensRow.holds Try.pinned (OpenSpec.ofChange opensSpec)

/-- ITS FALSE NEIGHBOUR: 'it returns false'. Refute it at one input. -/
def opensWrong : ChangeSpec := { name := "opens", fn := fun _ => fun
  | [d1, d2, d3, d4, d5, d6, d7] => { results := [.lit (.bool false)], args := [d1, d2, d3, d4, d5, d6, d7] }
  | _ => none }
def OpensWrongFalsely : Prop := opensRow.holds Try.pinned (OpenSpec.ofChange opensWrong)

/-- 'cachetkeep.Inverse': WHATEVER THE INPUT: true; the input reads as it did. -/
def inverseSpec : ChangeSpec := { name := "inverse", fn := fun _ => fun
  | [d1, d2, d3, d4, d5, d6] => { results := [.lit (.bool true)], args := [d1, d2, d3, d4, d5, d6] }
  | _ => none }
def inverseRow : OpenClaim := { program := "ytgalgjmhdbncbaa", sum := "273f009b2e7be77847193d1b8db128902439e132dbf14b8aff5668859bd10643", func := "cachet/cachetkeep.Inverse", spec := "inverse", inPlace := ["internal/abi.NoEscape", "internal/bytealg.MakeNoZero"], apart := false }
def InverseSaid : Prop := inverseRow.holds Try.pinned (OpenSpec.ofChange inverseSpec)

/-- ITS FALSE NEIGHBOUR: 'it returns false'. Refute it at one input. -/
def inverseWrong : ChangeSpec := { name := "inverse", fn := fun _ => fun
  | [d1, d2, d3, d4, d5, d6] => { results := [.lit (.bool false)], args := [d1, d2, d3, d4, d5, d6] }
  | _ => none }
def InverseWrongFalsely : Prop := inverseRow.holds Try.pinned (OpenSpec.ofChange inverseWrong)

/-- 'cachetkeep.Turned': WHATEVER THE INPUT: true; the input reads as it did. -/
def turnedSpec : ChangeSpec := { name := "turned", fn := fun _ => fun
  | [d1, d2, d3, d4, d5, d6, d7, d8] => { results := [.lit (.bool true)], args := [d1, d2, d3, d4, d5, d6, d7, d8] }
  | _ => none }
def turnedRow : OpenClaim := { program := "ytgalgjmhdbncbaa", sum := "273f009b2e7be77847193d1b8db128902439e132dbf14b8aff5668859bd10643", func := "cachet/cachetkeep.Turned", spec := "turned", inPlace := ["internal/abi.NoEscape", "internal/bytealg.MakeNoZero"], apart := false }
def TurnedSaid : Prop := turnedRow.holds Try.pinned (OpenSpec.ofChange turnedSpec)

/-- ITS FALSE NEIGHBOUR: 'it returns false'. Refute it at one input. -/
def turnedWrong : ChangeSpec := { name := "turned", fn := fun _ => fun
  | [d1, d2, d3, d4, d5, d6, d7, d8] => { results := [.lit (.bool false)], args := [d1, d2, d3, d4, d5, d6, d7, d8] }
  | _ => none }
def TurnedWrongFalsely : Prop := turnedRow.holds Try.pinned (OpenSpec.ofChange turnedWrong)

/-- 'cachetlaw.Records': WHATEVER THE INPUT: true; the input reads as it did. -/
def recordsSpec : ChangeSpec := { name := "records", fn := fun _ => fun
  | [d1, d2] => { results := [.lit (.bool true)], args := [d1, d2] }
  | _ => none }
def recordsRow : OpenClaim := { program := "ytgalgjmhdbncbaa", sum := "273f009b2e7be77847193d1b8db128902439e132dbf14b8aff5668859bd10643", func := "cachet/cachetlaw.Records", spec := "records", apart := false }
def RecordsSaid : Prop := recordsRow.holds Try.pinned (OpenSpec.ofChange recordsSpec)

/-- ITS FALSE NEIGHBOUR: 'it returns false'. Refute it at one input. -/
def recordsWrong : ChangeSpec := { name := "records", fn := fun _ => fun
  | [d1, d2] => { results := [.lit (.bool false)], args := [d1, d2] }
  | _ => none }
def RecordsWrongFalsely : Prop := recordsRow.holds Try.pinned (OpenSpec.ofChange recordsWrong)

/-- 'cachetkeep.Parsed': WHATEVER THE INPUT: true; the input reads as it did. -/
def parsedSpec : ChangeSpec := { name := "parsed", fn := fun _ => fun
  | [d1, d2, d3] => { results := [.lit (.bool true)], args := [d1, d2, d3] }
  | _ => none }
def parsedRow : OpenClaim := { program := "ytgalgjmhdbncbaa", sum := "273f009b2e7be77847193d1b8db128902439e132dbf14b8aff5668859bd10643", func := "cachet/cachetkeep.Parsed", spec := "parsed", apart := false }
def ParsedSaid : Prop := parsedRow.holds Try.pinned (OpenSpec.ofChange parsedSpec)

/-- ITS FALSE NEIGHBOUR: 'it returns false'. Refute it at one input. -/
def parsedWrong : ChangeSpec := { name := "parsed", fn := fun _ => fun
  | [d1, d2, d3] => { results := [.lit (.bool false)], args := [d1, d2, d3] }
  | _ => none }
def ParsedWrongFalsely : Prop := parsedRow.holds Try.pinned (OpenSpec.ofChange parsedWrong)

/- THE SECOND FORM. 'bulk': how many values and letters a reading holds, each counted each time it is reached (what is shared counts as often as it is met; a slice's spare places count too). A statement '..UptoSaid' is the law's where the arguments, and the package variables that the reading takes, are together of bulk at most 1048576: NARROWER than '..Said'. Prove '..Said' where nothing that the law and all that it calls make is longer than what came in: it says more and counts as full. Else prove '..UptoSaid'. A law counts once. -/
mutual
def uptoBulk {H : Type} : DataW H → Nat
  | .lit (.string bytes) => bytes.length + 1
  | .lit _ => 1
  | .nil => 1
  | .ptr d => uptoBulk d + 1
  | .slice elems spare => uptoBulkAll elems + uptoBulkAll spare + 1
  | .agg parts => uptoBulkAll parts + 1
  | .iface _ d => uptoBulk d + 1
  | .map entries => uptoBulkEntries entries + 1
  | .held _ => 1
def uptoBulkAll {H : Type} : List (DataW H) → Nat
  | [] => 0
  | d :: r => uptoBulk d + uptoBulkAll r
def uptoBulkEntries {H : Type} : List (Lit × DataW H) → Nat
  | [] => 0
  | x :: r => uptoBulkEntry x + uptoBulkEntries r
def uptoBulkEntry {H : Type} : Lit × DataW H → Nat
  | (.string bytes, d) => bytes.length + uptoBulk d + 1
  | (_, d) => uptoBulk d + 1
 end
def uptoSmall : (H : Type) → List (DataW H) → Bool := fun _ ds => decide (uptoBulkAll ds ≤ 1048576)
def OpenSpec.upto (s : _root_.Go.ChangeSpec) : _root_.Go.OpenSpec := { _root_.Go.OpenSpec.ofChange s with cond := some uptoSmall }

/-- 'cachetlaw.Blocks', WHERE WHAT IT READS IS OF BULK AT MOST 1048576: true; the input reads as it did. -/
def blocksUptoRow : OpenClaim := { program := "ytgalgjmhdbncbaa", sum := "273f009b2e7be77847193d1b8db128902439e132dbf14b8aff5668859bd10643", func := "cachet/cachetlaw.Blocks", spec := "blocks", apart := false, narrowed := true }
def BlocksUptoSaid : Prop := blocksUptoRow.holds Try.pinned (OpenSpec.upto blocksSpec)

/-- 'cachetkeep.Permutes', WHERE WHAT IT READS IS OF BULK AT MOST 1048576: true; the input reads as it did. -/
def permutesUptoRow : OpenClaim := { program := "ytgalgjmhdbncbaa", sum := "273f009b2e7be77847193d1b8db128902439e132dbf14b8aff5668859bd10643", func := "cachet/cachetkeep.Permutes", spec := "permutes", apart := false, narrowed := true }
def PermutesUptoSaid : Prop := permutesUptoRow.holds Try.pinned (OpenSpec.upto permutesSpec)

/-- 'cachetkeep.Linear', WHERE WHAT IT READS IS OF BULK AT MOST 1048576: true; the input reads as it did. -/
def linearUptoRow : OpenClaim := { program := "ytgalgjmhdbncbaa", sum := "273f009b2e7be77847193d1b8db128902439e132dbf14b8aff5668859bd10643", func := "cachet/cachetkeep.Linear", spec := "linear", apart := false, narrowed := true }
def LinearUptoSaid : Prop := linearUptoRow.holds Try.pinned (OpenSpec.upto linearSpec)

/-- 'cachetlaw.Seals', WHERE WHAT IT READS IS OF BULK AT MOST 1048576: true; the input reads as it did. -/
def sealsUptoRow : OpenClaim := { program := "ytgalgjmhdbncbaa", sum := "273f009b2e7be77847193d1b8db128902439e132dbf14b8aff5668859bd10643", func := "cachet/cachetlaw.Seals", spec := "seals", inPlace := ["internal/abi.NoEscape", "internal/bytealg.MakeNoZero"], apart := false, narrowed := true }
def SealsUptoSaid : Prop := sealsUptoRow.holds Try.pinned (OpenSpec.upto sealsSpec)

/-- 'cachetlaw.Opens', WHERE WHAT IT READS IS OF BULK AT MOST 1048576: true; the input reads as it did. -/
def opensUptoRow : OpenClaim := { program := "ytgalgjmhdbncbaa", sum := "273f009b2e7be77847193d1b8db128902439e132dbf14b8aff5668859bd10643", func := "cachet/cachetlaw.Opens", spec := "opens", inPlace := ["internal/abi.NoEscape", "internal/bytealg.MakeNoZero"], apart := false, narrowed := true }
def OpensUptoSaid : Prop := opensUptoRow.holds Try.pinned (OpenSpec.upto opensSpec)

/-- 'cachetkeep.Inverse', WHERE WHAT IT READS IS OF BULK AT MOST 1048576: true; the input reads as it did. -/
def inverseUptoRow : OpenClaim := { program := "ytgalgjmhdbncbaa", sum := "273f009b2e7be77847193d1b8db128902439e132dbf14b8aff5668859bd10643", func := "cachet/cachetkeep.Inverse", spec := "inverse", inPlace := ["internal/abi.NoEscape", "internal/bytealg.MakeNoZero"], apart := false, narrowed := true }
def InverseUptoSaid : Prop := inverseUptoRow.holds Try.pinned (OpenSpec.upto inverseSpec)

/-- 'cachetkeep.Turned', WHERE WHAT IT READS IS OF BULK AT MOST 1048576: true; the input reads as it did. -/
def turnedUptoRow : OpenClaim := { program := "ytgalgjmhdbncbaa", sum := "273f009b2e7be77847193d1b8db128902439e132dbf14b8aff5668859bd10643", func := "cachet/cachetkeep.Turned", spec := "turned", inPlace := ["internal/abi.NoEscape", "internal/bytealg.MakeNoZero"], apart := false, narrowed := true }
def TurnedUptoSaid : Prop := turnedUptoRow.holds Try.pinned (OpenSpec.upto turnedSpec)

/-- 'cachetlaw.Records', WHERE WHAT IT READS IS OF BULK AT MOST 1048576: true; the input reads as it did. -/
def recordsUptoRow : OpenClaim := { program := "ytgalgjmhdbncbaa", sum := "273f009b2e7be77847193d1b8db128902439e132dbf14b8aff5668859bd10643", func := "cachet/cachetlaw.Records", spec := "records", apart := false, narrowed := true }
def RecordsUptoSaid : Prop := recordsUptoRow.holds Try.pinned (OpenSpec.upto recordsSpec)

/-- 'cachetkeep.Parsed', WHERE WHAT IT READS IS OF BULK AT MOST 1048576: true; the input reads as it did. -/
def parsedUptoRow : OpenClaim := { program := "ytgalgjmhdbncbaa", sum := "273f009b2e7be77847193d1b8db128902439e132dbf14b8aff5668859bd10643", func := "cachet/cachetkeep.Parsed", spec := "parsed", apart := false, narrowed := true }
def ParsedUptoSaid : Prop := parsedUptoRow.holds Try.pinned (OpenSpec.upto parsedSpec)

end Rows
end Go.Proofs.Ytgalgjmhdbncbaa
