/-
  No cell of these rows narrows 'for every input' (looked for: loops, veiled, ifaces, maps, wideKeys, modest, calm, conditions, laid).
  DERIVED. THE GIVEN ROWS OF THIS SEAT. 5 by the template 'for every input the law returns true; each argument reads behind the call as it read before'; 0 by the template 'total and deterministic' (their statements: YtpabbhhaagfoeaaTotals.lean).
  GIVEN WITH THE SEED: the statements are not yours to turn. If you find one false, say at which input.
  Laid BY PROGRAM, IN A SANDBOX (cutbox-rows.mjs): the forced cells as the released guide's own fill.sh prints them over the translation 411d6081d9f01111… (all of the seat's roots in one cut). By AI agents, Wed Nov 11 2026. No macro, syntax, notation, axiom, sorry.
-/
import Derived.Test.YtpabbhhaagfoeaaChecked
import GoSem.Claim
import GoSem.ClaimJoined
import GoSem.ClaimMapViews
import Derived.JoinedTies
import Derived.KernelRfl
namespace Go.Proofs.Ytpabbhhaagfoeaa
/- THE CELL 'sum', in the pinned program and in every row, IS THE sha256 OF THE DUMP (.gsa) THAT YtpabbhhaagfoeaaProg.lean LOADS. Nothing in Lean hashes anything: it is a label: what it is worth is what the hold of that sum in a sandbox is worth. -/
noncomputable def Try.pinned : Pinned := { name := "ytpabbhhaagfoeaa", sum := "411d6081d9f0111142ffd4789c5d18f2c72623294b022293abea4e1f1c594169", checked := Try.checked }
namespace Rows
def none {H : Type} : Left H := { results := [], args := [] }

/-- 'notcherlaw15.LeaderPlays': WHATEVER THE INPUT: true; the input reads as it did. -/
def leaderPlaysSpec : ChangeSpec := { name := "leaderPlays", fn := fun _ => fun
  | [d1, d2] => { results := [.lit (.bool true)], args := [d1, d2] }
  | _ => none }
def leaderPlaysRow : OpenClaim := { program := "ytpabbhhaagfoeaa", sum := "411d6081d9f0111142ffd4789c5d18f2c72623294b022293abea4e1f1c594169", func := "notcher/notcherlaw15.LeaderPlays", spec := "leaderPlays", unfollowed := true, recurses := true, apart := false }
def LeaderPlaysSaid : Prop := leaderPlaysRow.holds Try.pinned (OpenSpec.ofChange leaderPlaysSpec)

/-- ITS FALSE NEIGHBOUR: 'it returns false'. Refute it at one input. -/
def leaderPlaysWrong : ChangeSpec := { name := "leaderPlays", fn := fun _ => fun
  | [d1, d2] => { results := [.lit (.bool false)], args := [d1, d2] }
  | _ => none }
def LeaderPlaysWrongFalsely : Prop := leaderPlaysRow.holds Try.pinned (OpenSpec.ofChange leaderPlaysWrong)

/-- 'notcherlaw16.ElectPlays': WHATEVER THE INPUT: true; the input reads as it did. -/
def electPlaysSpec : ChangeSpec := { name := "electPlays", fn := fun _ => fun
  | [d1, d2, d3] => { results := [.lit (.bool true)], args := [d1, d2, d3] }
  | _ => none }
def electPlaysRow : OpenClaim := { program := "ytpabbhhaagfoeaa", sum := "411d6081d9f0111142ffd4789c5d18f2c72623294b022293abea4e1f1c594169", func := "notcher/notcherlaw16.ElectPlays", spec := "electPlays", apart := false }
def ElectPlaysSaid : Prop := electPlaysRow.holds Try.pinned (OpenSpec.ofChange electPlaysSpec)

/-- ITS FALSE NEIGHBOUR: 'it returns false'. Refute it at one input. -/
def electPlaysWrong : ChangeSpec := { name := "electPlays", fn := fun _ => fun
  | [d1, d2, d3] => { results := [.lit (.bool false)], args := [d1, d2, d3] }
  | _ => none }
def ElectPlaysWrongFalsely : Prop := electPlaysRow.holds Try.pinned (OpenSpec.ofChange electPlaysWrong)

/-- 'notcherlaw16.ElectTurns': WHATEVER THE INPUT: true; the input reads as it did. -/
def electTurnsSpec : ChangeSpec := { name := "electTurns", fn := fun _ => fun
  | [d1, d2, d3] => { results := [.lit (.bool true)], args := [d1, d2, d3] }
  | _ => none }
def electTurnsRow : OpenClaim := { program := "ytpabbhhaagfoeaa", sum := "411d6081d9f0111142ffd4789c5d18f2c72623294b022293abea4e1f1c594169", func := "notcher/notcherlaw16.ElectTurns", spec := "electTurns", apart := false }
def ElectTurnsSaid : Prop := electTurnsRow.holds Try.pinned (OpenSpec.ofChange electTurnsSpec)

/-- ITS FALSE NEIGHBOUR: 'it returns false'. Refute it at one input. -/
def electTurnsWrong : ChangeSpec := { name := "electTurns", fn := fun _ => fun
  | [d1, d2, d3] => { results := [.lit (.bool false)], args := [d1, d2, d3] }
  | _ => none }
def ElectTurnsWrongFalsely : Prop := electTurnsRow.holds Try.pinned (OpenSpec.ofChange electTurnsWrong)

/-- 'notcherlaw16.ElectHears': WHATEVER THE INPUT: true; the input reads as it did. -/
def electHearsSpec : ChangeSpec := { name := "electHears", fn := fun _ => fun
  | [d1, d2] => { results := [.lit (.bool true)], args := [d1, d2] }
  | _ => none }
def electHearsRow : OpenClaim := { program := "ytpabbhhaagfoeaa", sum := "411d6081d9f0111142ffd4789c5d18f2c72623294b022293abea4e1f1c594169", func := "notcher/notcherlaw16.ElectHears", spec := "electHears", apart := false }
def ElectHearsSaid : Prop := electHearsRow.holds Try.pinned (OpenSpec.ofChange electHearsSpec)

/-- ITS FALSE NEIGHBOUR: 'it returns false'. Refute it at one input. -/
def electHearsWrong : ChangeSpec := { name := "electHears", fn := fun _ => fun
  | [d1, d2] => { results := [.lit (.bool false)], args := [d1, d2] }
  | _ => none }
def ElectHearsWrongFalsely : Prop := electHearsRow.holds Try.pinned (OpenSpec.ofChange electHearsWrong)

/-- 'notcherlaw16.ElectAlone': WHATEVER THE INPUT: true; the input reads as it did. -/
def electAloneSpec : ChangeSpec := { name := "electAlone", fn := fun _ => fun
  | [d1, d2, d3] => { results := [.lit (.bool true)], args := [d1, d2, d3] }
  | _ => none }
def electAloneRow : OpenClaim := { program := "ytpabbhhaagfoeaa", sum := "411d6081d9f0111142ffd4789c5d18f2c72623294b022293abea4e1f1c594169", func := "notcher/notcherlaw16.ElectAlone", spec := "electAlone", apart := false }
def ElectAloneSaid : Prop := electAloneRow.holds Try.pinned (OpenSpec.ofChange electAloneSpec)

/-- ITS FALSE NEIGHBOUR: 'it returns false'. Refute it at one input. -/
def electAloneWrong : ChangeSpec := { name := "electAlone", fn := fun _ => fun
  | [d1, d2, d3] => { results := [.lit (.bool false)], args := [d1, d2, d3] }
  | _ => none }
def ElectAloneWrongFalsely : Prop := electAloneRow.holds Try.pinned (OpenSpec.ofChange electAloneWrong)

/- THE SECOND FORM. 'bulk': how many values and letters a reading holds, each counted each time it is reached (what is shared counts as often as it is met; a slice's spare places count too). A statement '..UptoSaid' is the law's where the arguments, and the package variables that the reading takes, are together of bulk at most 1048576: NARROWER than '..Said'. Prove '..Said' where nothing that the law and all that it calls make is longer than what came in: it says more and counts as full. Else prove '..UptoSaid'. A law counts once. -/
mutual
def uptoBulk {H : Type} : DataW H → Nat
  | .lit (.string bytes) => bytes.length + 1
  | .lit _ => 1
  | .nil => 1
  | .ptr d => uptoBulk d + 1
  | .slice elems spare => uptoBulkAll elems + uptoBulkAll spare + 1
  | .agg parts => uptoBulkAll parts + 1
  | .iface _ d => uptoBulk d + 1
  | .map entries => uptoBulkEntries entries + 1
  | .held _ => 1
def uptoBulkAll {H : Type} : List (DataW H) → Nat
  | [] => 0
  | d :: r => uptoBulk d + uptoBulkAll r
def uptoBulkEntries {H : Type} : List (Lit × DataW H) → Nat
  | [] => 0
  | x :: r => uptoBulkEntry x + uptoBulkEntries r
def uptoBulkEntry {H : Type} : Lit × DataW H → Nat
  | (.string bytes, d) => bytes.length + uptoBulk d + 1
  | (_, d) => uptoBulk d + 1
 end
def uptoSmall : (H : Type) → List (DataW H) → Bool := fun _ ds => decide (uptoBulkAll ds ≤ 1048576)
def OpenSpec.upto (s : _root_.Go.ChangeSpec) : _root_.Go.OpenSpec := { _root_.Go.OpenSpec.ofChange s with cond := some uptoSmall }

/-- 'notcherlaw15.LeaderPlays', WHERE WHAT IT READS IS OF BULK AT MOST 1048576: true; the input reads as it did. -/
def leaderPlaysUptoRow : OpenClaim := { program := "ytpabbhhaagfoeaa", sum := "411d6081d9f0111142ffd4789c5d18f2c72623294b022293abea4e1f1c594169", func := "notcher/notcherlaw15.LeaderPlays", spec := "leaderPlays", unfollowed := true, recurses := true, apart := false, narrowed := true }
def LeaderPlaysUptoSaid : Prop := leaderPlaysUptoRow.holds Try.pinned (OpenSpec.upto leaderPlaysSpec)

/-- 'notcherlaw16.ElectPlays', WHERE WHAT IT READS IS OF BULK AT MOST 1048576: true; the input reads as it did. -/
def electPlaysUptoRow : OpenClaim := { program := "ytpabbhhaagfoeaa", sum := "411d6081d9f0111142ffd4789c5d18f2c72623294b022293abea4e1f1c594169", func := "notcher/notcherlaw16.ElectPlays", spec := "electPlays", apart := false, narrowed := true }
def ElectPlaysUptoSaid : Prop := electPlaysUptoRow.holds Try.pinned (OpenSpec.upto electPlaysSpec)

/-- 'notcherlaw16.ElectTurns', WHERE WHAT IT READS IS OF BULK AT MOST 1048576: true; the input reads as it did. -/
def electTurnsUptoRow : OpenClaim := { program := "ytpabbhhaagfoeaa", sum := "411d6081d9f0111142ffd4789c5d18f2c72623294b022293abea4e1f1c594169", func := "notcher/notcherlaw16.ElectTurns", spec := "electTurns", apart := false, narrowed := true }
def ElectTurnsUptoSaid : Prop := electTurnsUptoRow.holds Try.pinned (OpenSpec.upto electTurnsSpec)

/-- 'notcherlaw16.ElectHears', WHERE WHAT IT READS IS OF BULK AT MOST 1048576: true; the input reads as it did. -/
def electHearsUptoRow : OpenClaim := { program := "ytpabbhhaagfoeaa", sum := "411d6081d9f0111142ffd4789c5d18f2c72623294b022293abea4e1f1c594169", func := "notcher/notcherlaw16.ElectHears", spec := "electHears", apart := false, narrowed := true }
def ElectHearsUptoSaid : Prop := electHearsUptoRow.holds Try.pinned (OpenSpec.upto electHearsSpec)

/-- 'notcherlaw16.ElectAlone', WHERE WHAT IT READS IS OF BULK AT MOST 1048576: true; the input reads as it did. -/
def electAloneUptoRow : OpenClaim := { program := "ytpabbhhaagfoeaa", sum := "411d6081d9f0111142ffd4789c5d18f2c72623294b022293abea4e1f1c594169", func := "notcher/notcherlaw16.ElectAlone", spec := "electAlone", apart := false, narrowed := true }
def ElectAloneUptoSaid : Prop := electAloneUptoRow.holds Try.pinned (OpenSpec.upto electAloneSpec)

end Rows
end Go.Proofs.Ytpabbhhaagfoeaa
