/-
  No cell of these rows narrows 'for every input' (looked for: loops, veiled, ifaces, maps, wideKeys, modest, calm, conditions, laid).
  DERIVED. THE GIVEN ROWS OF THIS SEAT. 6 by the template 'for every input the law returns true; each argument reads behind the call as it read before'; 0 by the template 'total and deterministic' (their statements: YthkejoabppocoaaTotals.lean).
  GIVEN WITH THE SEED: the statements are not yours to turn. If you find one false, say at which input.
  Laid BY PROGRAM, IN A SANDBOX (cutbox-rows.mjs): the forced cells as the released guide's own fill.sh prints them over the translation 38fa37d3da231ea1… (all of the seat's roots in one cut). By AI agents, Wed Nov 11 2026. No macro, syntax, notation, axiom, sorry.
-/
import Derived.Test.YthkejoabppocoaaChecked
import GoSem.Claim
import GoSem.ClaimJoined
import GoSem.ClaimMapViews
import Derived.JoinedTies
import Derived.KernelRfl
namespace Go.Proofs.Ythkejoabppocoaa
/- THE CELL 'sum', in the pinned program and in every row, IS THE sha256 OF THE DUMP (.gsa) THAT YthkejoabppocoaaProg.lean LOADS. Nothing in Lean hashes anything: it is a label: what it is worth is what the hold of that sum in a sandbox is worth. -/
noncomputable def Try.pinned : Pinned := { name := "ythkejoabppocoaa", sum := "38fa37d3da231ea1e54395c05dc4da5ca83e3ae772a10b957130b1e164664b05", checked := Try.checked }
namespace Rows
def none {H : Type} : Left H := { results := [], args := [] }

/-- 'notcherlaw13.AcceptorPlays': WHATEVER THE INPUT: true; the input reads as it did. -/
def acceptorPlaysSpec : ChangeSpec := { name := "acceptorPlays", fn := fun _ => fun
  | [d] => { results := [.lit (.bool true)], args := [d] }
  | _ => none }
def acceptorPlaysRow : OpenClaim := { program := "ythkejoabppocoaa", sum := "38fa37d3da231ea1e54395c05dc4da5ca83e3ae772a10b957130b1e164664b05", func := "notcher/notcherlaw13.AcceptorPlays", spec := "acceptorPlays", unfollowed := true, recurses := true, apart := false }
def AcceptorPlaysSaid : Prop := acceptorPlaysRow.holds Try.pinned (OpenSpec.ofChange acceptorPlaysSpec)

/-- ITS FALSE NEIGHBOUR: 'it returns false'. Refute it at one input. -/
def acceptorPlaysWrong : ChangeSpec := { name := "acceptorPlays", fn := fun _ => fun
  | [d] => { results := [.lit (.bool false)], args := [d] }
  | _ => none }
def AcceptorPlaysWrongFalsely : Prop := acceptorPlaysRow.holds Try.pinned (OpenSpec.ofChange acceptorPlaysWrong)

/-- 'notcherlaw13.AcceptorVotes': WHATEVER THE INPUT: true; the input reads as it did. -/
def acceptorVotesSpec : ChangeSpec := { name := "acceptorVotes", fn := fun _ => fun
  | [d1, d2] => { results := [.lit (.bool true)], args := [d1, d2] }
  | _ => none }
def acceptorVotesRow : OpenClaim := { program := "ythkejoabppocoaa", sum := "38fa37d3da231ea1e54395c05dc4da5ca83e3ae772a10b957130b1e164664b05", func := "notcher/notcherlaw13.AcceptorVotes", spec := "acceptorVotes", unfollowed := true, recurses := true, apart := false }
def AcceptorVotesSaid : Prop := acceptorVotesRow.holds Try.pinned (OpenSpec.ofChange acceptorVotesSpec)

/-- ITS FALSE NEIGHBOUR: 'it returns false'. Refute it at one input. -/
def acceptorVotesWrong : ChangeSpec := { name := "acceptorVotes", fn := fun _ => fun
  | [d1, d2] => { results := [.lit (.bool false)], args := [d1, d2] }
  | _ => none }
def AcceptorVotesWrongFalsely : Prop := acceptorVotesRow.holds Try.pinned (OpenSpec.ofChange acceptorVotesWrong)

/-- 'notcherlaw13.AcceptorKeeps': WHATEVER THE INPUT: true; the input reads as it did. -/
def acceptorKeepsSpec : ChangeSpec := { name := "acceptorKeeps", fn := fun _ => fun
  | [d] => { results := [.lit (.bool true)], args := [d] }
  | _ => none }
def acceptorKeepsRow : OpenClaim := { program := "ythkejoabppocoaa", sum := "38fa37d3da231ea1e54395c05dc4da5ca83e3ae772a10b957130b1e164664b05", func := "notcher/notcherlaw13.AcceptorKeeps", spec := "acceptorKeeps", unfollowed := true, recurses := true, apart := false }
def AcceptorKeepsSaid : Prop := acceptorKeepsRow.holds Try.pinned (OpenSpec.ofChange acceptorKeepsSpec)

/-- ITS FALSE NEIGHBOUR: 'it returns false'. Refute it at one input. -/
def acceptorKeepsWrong : ChangeSpec := { name := "acceptorKeeps", fn := fun _ => fun
  | [d] => { results := [.lit (.bool false)], args := [d] }
  | _ => none }
def AcceptorKeepsWrongFalsely : Prop := acceptorKeepsRow.holds Try.pinned (OpenSpec.ofChange acceptorKeepsWrong)

/-- 'notcherlaw13.AcceptorForgets': WHATEVER THE INPUT: true; the input reads as it did. -/
def acceptorForgetsSpec : ChangeSpec := { name := "acceptorForgets", fn := fun _ => fun
  | [d1, d2] => { results := [.lit (.bool true)], args := [d1, d2] }
  | _ => none }
def acceptorForgetsRow : OpenClaim := { program := "ythkejoabppocoaa", sum := "38fa37d3da231ea1e54395c05dc4da5ca83e3ae772a10b957130b1e164664b05", func := "notcher/notcherlaw13.AcceptorForgets", spec := "acceptorForgets", unfollowed := true, recurses := true, apart := false }
def AcceptorForgetsSaid : Prop := acceptorForgetsRow.holds Try.pinned (OpenSpec.ofChange acceptorForgetsSpec)

/-- ITS FALSE NEIGHBOUR: 'it returns false'. Refute it at one input. -/
def acceptorForgetsWrong : ChangeSpec := { name := "acceptorForgets", fn := fun _ => fun
  | [d1, d2] => { results := [.lit (.bool false)], args := [d1, d2] }
  | _ => none }
def AcceptorForgetsWrongFalsely : Prop := acceptorForgetsRow.holds Try.pinned (OpenSpec.ofChange acceptorForgetsWrong)

/-- 'notcherlaw13.AcceptorFrom': WHATEVER THE INPUT: true; the input reads as it did. -/
def acceptorFromSpec : ChangeSpec := { name := "acceptorFrom", fn := fun _ => fun
  | [d1, d2, d3] => { results := [.lit (.bool true)], args := [d1, d2, d3] }
  | _ => none }
def acceptorFromRow : OpenClaim := { program := "ythkejoabppocoaa", sum := "38fa37d3da231ea1e54395c05dc4da5ca83e3ae772a10b957130b1e164664b05", func := "notcher/notcherlaw13.AcceptorFrom", spec := "acceptorFrom", unfollowed := true, recurses := true, apart := false }
def AcceptorFromSaid : Prop := acceptorFromRow.holds Try.pinned (OpenSpec.ofChange acceptorFromSpec)

/-- ITS FALSE NEIGHBOUR: 'it returns false'. Refute it at one input. -/
def acceptorFromWrong : ChangeSpec := { name := "acceptorFrom", fn := fun _ => fun
  | [d1, d2, d3] => { results := [.lit (.bool false)], args := [d1, d2, d3] }
  | _ => none }
def AcceptorFromWrongFalsely : Prop := acceptorFromRow.holds Try.pinned (OpenSpec.ofChange acceptorFromWrong)

/-- 'notcherlaw13.AcceptorBack': WHATEVER THE INPUT: true; the input reads as it did. -/
def acceptorBackSpec : ChangeSpec := { name := "acceptorBack", fn := fun _ => fun
  | [d1, d2, d3] => { results := [.lit (.bool true)], args := [d1, d2, d3] }
  | _ => none }
def acceptorBackRow : OpenClaim := { program := "ythkejoabppocoaa", sum := "38fa37d3da231ea1e54395c05dc4da5ca83e3ae772a10b957130b1e164664b05", func := "notcher/notcherlaw13.AcceptorBack", spec := "acceptorBack", unfollowed := true, recurses := true, apart := false }
def AcceptorBackSaid : Prop := acceptorBackRow.holds Try.pinned (OpenSpec.ofChange acceptorBackSpec)

/-- ITS FALSE NEIGHBOUR: 'it returns false'. Refute it at one input. -/
def acceptorBackWrong : ChangeSpec := { name := "acceptorBack", fn := fun _ => fun
  | [d1, d2, d3] => { results := [.lit (.bool false)], args := [d1, d2, d3] }
  | _ => none }
def AcceptorBackWrongFalsely : Prop := acceptorBackRow.holds Try.pinned (OpenSpec.ofChange acceptorBackWrong)

/- THE SECOND FORM. 'bulk': how many values and letters a reading holds, each counted each time it is reached (what is shared counts as often as it is met; a slice's spare places count too). A statement '..UptoSaid' is the law's where the arguments, and the package variables that the reading takes, are together of bulk at most 1048576: NARROWER than '..Said'. Prove '..Said' where nothing that the law and all that it calls make is longer than what came in: it says more and counts as full. Else prove '..UptoSaid'. A law counts once. -/
mutual
def uptoBulk {H : Type} : DataW H → Nat
  | .lit (.string bytes) => bytes.length + 1
  | .lit _ => 1
  | .nil => 1
  | .ptr d => uptoBulk d + 1
  | .slice elems spare => uptoBulkAll elems + uptoBulkAll spare + 1
  | .agg parts => uptoBulkAll parts + 1
  | .iface _ d => uptoBulk d + 1
  | .map entries => uptoBulkEntries entries + 1
  | .held _ => 1
def uptoBulkAll {H : Type} : List (DataW H) → Nat
  | [] => 0
  | d :: r => uptoBulk d + uptoBulkAll r
def uptoBulkEntries {H : Type} : List (Lit × DataW H) → Nat
  | [] => 0
  | x :: r => uptoBulkEntry x + uptoBulkEntries r
def uptoBulkEntry {H : Type} : Lit × DataW H → Nat
  | (.string bytes, d) => bytes.length + uptoBulk d + 1
  | (_, d) => uptoBulk d + 1
 end
def uptoSmall : (H : Type) → List (DataW H) → Bool := fun _ ds => decide (uptoBulkAll ds ≤ 1048576)
def OpenSpec.upto (s : _root_.Go.ChangeSpec) : _root_.Go.OpenSpec := { _root_.Go.OpenSpec.ofChange s with cond := some uptoSmall }

/-- 'notcherlaw13.AcceptorPlays', WHERE WHAT IT READS IS OF BULK AT MOST 1048576: true; the input reads as it did. -/
def acceptorPlaysUptoRow : OpenClaim := { program := "ythkejoabppocoaa", sum := "38fa37d3da231ea1e54395c05dc4da5ca83e3ae772a10b957130b1e164664b05", func := "notcher/notcherlaw13.AcceptorPlays", spec := "acceptorPlays", unfollowed := true, recurses := true, apart := false, narrowed := true }
def AcceptorPlaysUptoSaid : Prop := acceptorPlaysUptoRow.holds Try.pinned (OpenSpec.upto acceptorPlaysSpec)

/-- 'notcherlaw13.AcceptorVotes', WHERE WHAT IT READS IS OF BULK AT MOST 1048576: true; the input reads as it did. -/
def acceptorVotesUptoRow : OpenClaim := { program := "ythkejoabppocoaa", sum := "38fa37d3da231ea1e54395c05dc4da5ca83e3ae772a10b957130b1e164664b05", func := "notcher/notcherlaw13.AcceptorVotes", spec := "acceptorVotes", unfollowed := true, recurses := true, apart := false, narrowed := true }
def AcceptorVotesUptoSaid : Prop := acceptorVotesUptoRow.holds Try.pinned (OpenSpec.upto acceptorVotesSpec)

/-- 'notcherlaw13.AcceptorKeeps', WHERE WHAT IT READS IS OF BULK AT MOST 1048576: true; the input reads as it did. -/
def acceptorKeepsUptoRow : OpenClaim := { program := "ythkejoabppocoaa", sum := "38fa37d3da231ea1e54395c05dc4da5ca83e3ae772a10b957130b1e164664b05", func := "notcher/notcherlaw13.AcceptorKeeps", spec := "acceptorKeeps", unfollowed := true, recurses := true, apart := false, narrowed := true }
def AcceptorKeepsUptoSaid : Prop := acceptorKeepsUptoRow.holds Try.pinned (OpenSpec.upto acceptorKeepsSpec)

/-- 'notcherlaw13.AcceptorForgets', WHERE WHAT IT READS IS OF BULK AT MOST 1048576: true; the input reads as it did. -/
def acceptorForgetsUptoRow : OpenClaim := { program := "ythkejoabppocoaa", sum := "38fa37d3da231ea1e54395c05dc4da5ca83e3ae772a10b957130b1e164664b05", func := "notcher/notcherlaw13.AcceptorForgets", spec := "acceptorForgets", unfollowed := true, recurses := true, apart := false, narrowed := true }
def AcceptorForgetsUptoSaid : Prop := acceptorForgetsUptoRow.holds Try.pinned (OpenSpec.upto acceptorForgetsSpec)

/-- 'notcherlaw13.AcceptorFrom', WHERE WHAT IT READS IS OF BULK AT MOST 1048576: true; the input reads as it did. -/
def acceptorFromUptoRow : OpenClaim := { program := "ythkejoabppocoaa", sum := "38fa37d3da231ea1e54395c05dc4da5ca83e3ae772a10b957130b1e164664b05", func := "notcher/notcherlaw13.AcceptorFrom", spec := "acceptorFrom", unfollowed := true, recurses := true, apart := false, narrowed := true }
def AcceptorFromUptoSaid : Prop := acceptorFromUptoRow.holds Try.pinned (OpenSpec.upto acceptorFromSpec)

/-- 'notcherlaw13.AcceptorBack', WHERE WHAT IT READS IS OF BULK AT MOST 1048576: true; the input reads as it did. -/
def acceptorBackUptoRow : OpenClaim := { program := "ythkejoabppocoaa", sum := "38fa37d3da231ea1e54395c05dc4da5ca83e3ae772a10b957130b1e164664b05", func := "notcher/notcherlaw13.AcceptorBack", spec := "acceptorBack", unfollowed := true, recurses := true, apart := false, narrowed := true }
def AcceptorBackUptoSaid : Prop := acceptorBackUptoRow.holds Try.pinned (OpenSpec.upto acceptorBackSpec)

end Rows
end Go.Proofs.Ythkejoabppocoaa
