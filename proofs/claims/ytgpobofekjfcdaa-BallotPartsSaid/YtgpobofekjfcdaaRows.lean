/-
  No cell of these rows narrows 'for every input' (looked for: loops, veiled, ifaces, maps, wideKeys, modest, calm, conditions, laid).
  DERIVED. THE GIVEN ROWS OF THIS SEAT. 4 by the template 'for every input the law returns true; each argument reads behind the call as it read before'; 0 by the template 'total and deterministic' (their statements: YtgpobofekjfcdaaTotals.lean).
  GIVEN WITH THE SEED: the statements are not yours to turn. If you find one false, say at which input.
  Laid BY PROGRAM, IN A SANDBOX (cutbox-rows.mjs): the forced cells as the released guide's own fill.sh prints them over the translation 63a4cbc226825b49… (all of the seat's roots in one cut). By AI agents, Wed Nov 11 2026. No macro, syntax, notation, axiom, sorry.
-/
import Derived.Test.YtgpobofekjfcdaaChecked
import GoSem.Claim
import GoSem.ClaimJoined
import GoSem.ClaimMapViews
import Derived.JoinedTies
import Derived.KernelRfl
namespace Go.Proofs.Ytgpobofekjfcdaa
/- THE CELL 'sum', in the pinned program and in every row, IS THE sha256 OF THE DUMP (.gsa) THAT YtgpobofekjfcdaaProg.lean LOADS. Nothing in Lean hashes anything: it is a label: what it is worth is what the hold of that sum in a sandbox is worth. -/
noncomputable def Try.pinned : Pinned := { name := "ytgpobofekjfcdaa", sum := "63a4cbc226825b4935553b844f425fb1519914280ba3cad0d8fd4565cccb3cf6", checked := Try.checked }
namespace Rows
def none {H : Type} : Left H := { results := [], args := [] }

/-- 'notcherlaw12.BallotMakes': WHATEVER THE INPUT: true; the input reads as it did. -/
def ballotMakesSpec : ChangeSpec := { name := "ballotMakes", fn := fun _ => fun
  | [d1, d2, d3] => { results := [.lit (.bool true)], args := [d1, d2, d3] }
  | _ => none }
def ballotMakesRow : OpenClaim := { program := "ytgpobofekjfcdaa", sum := "63a4cbc226825b4935553b844f425fb1519914280ba3cad0d8fd4565cccb3cf6", func := "notcher/notcherlaw12.BallotMakes", spec := "ballotMakes", apart := false }
def BallotMakesSaid : Prop := ballotMakesRow.holds Try.pinned (OpenSpec.ofChange ballotMakesSpec)

/-- ITS FALSE NEIGHBOUR: 'it returns false'. Refute it at one input. -/
def ballotMakesWrong : ChangeSpec := { name := "ballotMakes", fn := fun _ => fun
  | [d1, d2, d3] => { results := [.lit (.bool false)], args := [d1, d2, d3] }
  | _ => none }
def BallotMakesWrongFalsely : Prop := ballotMakesRow.holds Try.pinned (OpenSpec.ofChange ballotMakesWrong)

/-- 'notcherlaw12.BallotOrder': WHATEVER THE INPUT: true; the input reads as it did. -/
def ballotOrderSpec : ChangeSpec := { name := "ballotOrder", fn := fun _ => fun
  | [d1, d2, d3, d4] => { results := [.lit (.bool true)], args := [d1, d2, d3, d4] }
  | _ => none }
def ballotOrderRow : OpenClaim := { program := "ytgpobofekjfcdaa", sum := "63a4cbc226825b4935553b844f425fb1519914280ba3cad0d8fd4565cccb3cf6", func := "notcher/notcherlaw12.BallotOrder", spec := "ballotOrder", apart := false }
def BallotOrderSaid : Prop := ballotOrderRow.holds Try.pinned (OpenSpec.ofChange ballotOrderSpec)

/-- ITS FALSE NEIGHBOUR: 'it returns false'. Refute it at one input. -/
def ballotOrderWrong : ChangeSpec := { name := "ballotOrder", fn := fun _ => fun
  | [d1, d2, d3, d4] => { results := [.lit (.bool false)], args := [d1, d2, d3, d4] }
  | _ => none }
def BallotOrderWrongFalsely : Prop := ballotOrderRow.holds Try.pinned (OpenSpec.ofChange ballotOrderWrong)

/-- 'notcherlaw12.BallotChain': WHATEVER THE INPUT: true; the input reads as it did. -/
def ballotChainSpec : ChangeSpec := { name := "ballotChain", fn := fun _ => fun
  | [d1, d2] => { results := [.lit (.bool true)], args := [d1, d2] }
  | _ => none }
def ballotChainRow : OpenClaim := { program := "ytgpobofekjfcdaa", sum := "63a4cbc226825b4935553b844f425fb1519914280ba3cad0d8fd4565cccb3cf6", func := "notcher/notcherlaw12.BallotChain", spec := "ballotChain", apart := false }
def BallotChainSaid : Prop := ballotChainRow.holds Try.pinned (OpenSpec.ofChange ballotChainSpec)

/-- ITS FALSE NEIGHBOUR: 'it returns false'. Refute it at one input. -/
def ballotChainWrong : ChangeSpec := { name := "ballotChain", fn := fun _ => fun
  | [d1, d2] => { results := [.lit (.bool false)], args := [d1, d2] }
  | _ => none }
def BallotChainWrongFalsely : Prop := ballotChainRow.holds Try.pinned (OpenSpec.ofChange ballotChainWrong)

/-- 'notcherlaw12.BallotParts': WHATEVER THE INPUT: true; the input reads as it did. -/
def ballotPartsSpec : ChangeSpec := { name := "ballotParts", fn := fun _ => fun
  | [d1, d2] => { results := [.lit (.bool true)], args := [d1, d2] }
  | _ => none }
def ballotPartsRow : OpenClaim := { program := "ytgpobofekjfcdaa", sum := "63a4cbc226825b4935553b844f425fb1519914280ba3cad0d8fd4565cccb3cf6", func := "notcher/notcherlaw12.BallotParts", spec := "ballotParts", apart := false }
def BallotPartsSaid : Prop := ballotPartsRow.holds Try.pinned (OpenSpec.ofChange ballotPartsSpec)

/-- ITS FALSE NEIGHBOUR: 'it returns false'. Refute it at one input. -/
def ballotPartsWrong : ChangeSpec := { name := "ballotParts", fn := fun _ => fun
  | [d1, d2] => { results := [.lit (.bool false)], args := [d1, d2] }
  | _ => none }
def BallotPartsWrongFalsely : Prop := ballotPartsRow.holds Try.pinned (OpenSpec.ofChange ballotPartsWrong)

/- THE SECOND FORM. 'bulk': how many values and letters a reading holds, each counted each time it is reached (what is shared counts as often as it is met; a slice's spare places count too). A statement '..UptoSaid' is the law's where the arguments, and the package variables that the reading takes, are together of bulk at most 1048576: NARROWER than '..Said'. Prove '..Said' where nothing that the law and all that it calls make is longer than what came in: it says more and counts as full. Else prove '..UptoSaid'. A law counts once. -/
mutual
def uptoBulk {H : Type} : DataW H → Nat
  | .lit (.string bytes) => bytes.length + 1
  | .lit _ => 1
  | .nil => 1
  | .ptr d => uptoBulk d + 1
  | .slice elems spare => uptoBulkAll elems + uptoBulkAll spare + 1
  | .agg parts => uptoBulkAll parts + 1
  | .iface _ d => uptoBulk d + 1
  | .map entries => uptoBulkEntries entries + 1
  | .held _ => 1
def uptoBulkAll {H : Type} : List (DataW H) → Nat
  | [] => 0
  | d :: r => uptoBulk d + uptoBulkAll r
def uptoBulkEntries {H : Type} : List (Lit × DataW H) → Nat
  | [] => 0
  | x :: r => uptoBulkEntry x + uptoBulkEntries r
def uptoBulkEntry {H : Type} : Lit × DataW H → Nat
  | (.string bytes, d) => bytes.length + uptoBulk d + 1
  | (_, d) => uptoBulk d + 1
 end
def uptoSmall : (H : Type) → List (DataW H) → Bool := fun _ ds => decide (uptoBulkAll ds ≤ 1048576)
def OpenSpec.upto (s : _root_.Go.ChangeSpec) : _root_.Go.OpenSpec := { _root_.Go.OpenSpec.ofChange s with cond := some uptoSmall }

/-- 'notcherlaw12.BallotMakes', WHERE WHAT IT READS IS OF BULK AT MOST 1048576: true; the input reads as it did. -/
def ballotMakesUptoRow : OpenClaim := { program := "ytgpobofekjfcdaa", sum := "63a4cbc226825b4935553b844f425fb1519914280ba3cad0d8fd4565cccb3cf6", func := "notcher/notcherlaw12.BallotMakes", spec := "ballotMakes", apart := false, narrowed := true }
def BallotMakesUptoSaid : Prop := ballotMakesUptoRow.holds Try.pinned (OpenSpec.upto ballotMakesSpec)

/-- 'notcherlaw12.BallotOrder', WHERE WHAT IT READS IS OF BULK AT MOST 1048576: true; the input reads as it did. -/
def ballotOrderUptoRow : OpenClaim := { program := "ytgpobofekjfcdaa", sum := "63a4cbc226825b4935553b844f425fb1519914280ba3cad0d8fd4565cccb3cf6", func := "notcher/notcherlaw12.BallotOrder", spec := "ballotOrder", apart := false, narrowed := true }
def BallotOrderUptoSaid : Prop := ballotOrderUptoRow.holds Try.pinned (OpenSpec.upto ballotOrderSpec)

/-- 'notcherlaw12.BallotChain', WHERE WHAT IT READS IS OF BULK AT MOST 1048576: true; the input reads as it did. -/
def ballotChainUptoRow : OpenClaim := { program := "ytgpobofekjfcdaa", sum := "63a4cbc226825b4935553b844f425fb1519914280ba3cad0d8fd4565cccb3cf6", func := "notcher/notcherlaw12.BallotChain", spec := "ballotChain", apart := false, narrowed := true }
def BallotChainUptoSaid : Prop := ballotChainUptoRow.holds Try.pinned (OpenSpec.upto ballotChainSpec)

/-- 'notcherlaw12.BallotParts', WHERE WHAT IT READS IS OF BULK AT MOST 1048576: true; the input reads as it did. -/
def ballotPartsUptoRow : OpenClaim := { program := "ytgpobofekjfcdaa", sum := "63a4cbc226825b4935553b844f425fb1519914280ba3cad0d8fd4565cccb3cf6", func := "notcher/notcherlaw12.BallotParts", spec := "ballotParts", apart := false, narrowed := true }
def BallotPartsUptoSaid : Prop := ballotPartsUptoRow.holds Try.pinned (OpenSpec.upto ballotPartsSpec)

end Rows
end Go.Proofs.Ytgpobofekjfcdaa
