/-
  No cell of these rows narrows 'for every input' (looked for: loops, veiled, ifaces, maps, wideKeys, modest, calm, conditions, laid).
  DERIVED. THE GIVEN ROWS OF THIS SEAT. 4 by the template 'for every input the law returns true; each argument reads behind the call as it read before'; 0 by the template 'total and deterministic' (their statements: YtkpapjdlpjjmbaaTotals.lean).
  GIVEN WITH THE SEED: the statements are not yours to turn. If you find one false, say at which input.
  Laid BY PROGRAM, IN A SANDBOX (cutbox-rows.mjs): the forced cells as the released guide's own fill.sh prints them over the translation 67fc1b1c026b5cc5… (all of the seat's roots in one cut). By AI agents, Wed Nov 11 2026. No macro, syntax, notation, axiom, sorry.
-/
import Derived.Test.YtkpapjdlpjjmbaaChecked
import GoSem.Claim
import GoSem.ClaimJoined
import GoSem.ClaimMapViews
import Derived.JoinedTies
import Derived.KernelRfl
namespace Go.Proofs.Ytkpapjdlpjjmbaa
/- THE CELL 'sum', in the pinned program and in every row, IS THE sha256 OF THE DUMP (.gsa) THAT YtkpapjdlpjjmbaaProg.lean LOADS. Nothing in Lean hashes anything: it is a label: what it is worth is what the hold of that sum in a sandbox is worth. -/
noncomputable def Try.pinned : Pinned := { name := "ytkpapjdlpjjmbaa", sum := "67fc1b1c026b5cc5bf4864051aa1db61ab587060c62be120b75f9d3b585fd53f", checked := Try.checked }
namespace Rows
def none {H : Type} : Left H := { results := [], args := [] }

/-- 'snafflelaw08.CellRight': WHATEVER THE INPUT: true; the input reads as it did. -/
def cellRightSpec : ChangeSpec := { name := "cellRight", fn := fun _ => fun
  | [d1, d2, d3, d4, d5, d6] => { results := [.lit (.bool true)], args := [d1, d2, d3, d4, d5, d6] }
  | _ => none }
def cellRightRow : OpenClaim := { program := "ytkpapjdlpjjmbaa", sum := "67fc1b1c026b5cc5bf4864051aa1db61ab587060c62be120b75f9d3b585fd53f", func := "snaffle/snafflelaw08.CellRight", spec := "cellRight", unfollowed := true, recurses := true, apart := false }
def CellRightSaid : Prop := cellRightRow.holds Try.pinned (OpenSpec.ofChange cellRightSpec)

/-- ITS FALSE NEIGHBOUR: 'it returns false'. Refute it at one input. -/
def cellRightWrong : ChangeSpec := { name := "cellRight", fn := fun _ => fun
  | [d1, d2, d3, d4, d5, d6] => { results := [.lit (.bool false)], args := [d1, d2, d3, d4, d5, d6] }
  | _ => none }
def CellRightWrongFalsely : Prop := cellRightRow.holds Try.pinned (OpenSpec.ofChange cellRightWrong)

/-- 'snafflelaw08.CellBack': WHATEVER THE INPUT: true; the input reads as it did. -/
def cellBackSpec : ChangeSpec := { name := "cellBack", fn := fun _ => fun
  | [d1, d2, d3] => { results := [.lit (.bool true)], args := [d1, d2, d3] }
  | _ => none }
def cellBackRow : OpenClaim := { program := "ytkpapjdlpjjmbaa", sum := "67fc1b1c026b5cc5bf4864051aa1db61ab587060c62be120b75f9d3b585fd53f", func := "snaffle/snafflelaw08.CellBack", spec := "cellBack", unfollowed := true, recurses := true, apart := false }
def CellBackSaid : Prop := cellBackRow.holds Try.pinned (OpenSpec.ofChange cellBackSpec)

/-- ITS FALSE NEIGHBOUR: 'it returns false'. Refute it at one input. -/
def cellBackWrong : ChangeSpec := { name := "cellBack", fn := fun _ => fun
  | [d1, d2, d3] => { results := [.lit (.bool false)], args := [d1, d2, d3] }
  | _ => none }
def CellBackWrongFalsely : Prop := cellBackRow.holds Try.pinned (OpenSpec.ofChange cellBackWrong)

/-- 'snafflelaw08.CellDone': WHATEVER THE INPUT: true; the input reads as it did. -/
def cellDoneSpec : ChangeSpec := { name := "cellDone", fn := fun _ => fun
  | [d1, d2, d3, d4] => { results := [.lit (.bool true)], args := [d1, d2, d3, d4] }
  | _ => none }
def cellDoneRow : OpenClaim := { program := "ytkpapjdlpjjmbaa", sum := "67fc1b1c026b5cc5bf4864051aa1db61ab587060c62be120b75f9d3b585fd53f", func := "snaffle/snafflelaw08.CellDone", spec := "cellDone", unfollowed := true, recurses := true, apart := false }
def CellDoneSaid : Prop := cellDoneRow.holds Try.pinned (OpenSpec.ofChange cellDoneSpec)

/-- ITS FALSE NEIGHBOUR: 'it returns false'. Refute it at one input. -/
def cellDoneWrong : ChangeSpec := { name := "cellDone", fn := fun _ => fun
  | [d1, d2, d3, d4] => { results := [.lit (.bool false)], args := [d1, d2, d3, d4] }
  | _ => none }
def CellDoneWrongFalsely : Prop := cellDoneRow.holds Try.pinned (OpenSpec.ofChange cellDoneWrong)

/-- 'snafflelaw08.CellCovers': WHATEVER THE INPUT: true; the input reads as it did. -/
def cellCoversSpec : ChangeSpec := { name := "cellCovers", fn := fun _ => fun
  | [d1, d2, d3] => { results := [.lit (.bool true)], args := [d1, d2, d3] }
  | _ => none }
def cellCoversRow : OpenClaim := { program := "ytkpapjdlpjjmbaa", sum := "67fc1b1c026b5cc5bf4864051aa1db61ab587060c62be120b75f9d3b585fd53f", func := "snaffle/snafflelaw08.CellCovers", spec := "cellCovers", unfollowed := true, recurses := true, apart := false }
def CellCoversSaid : Prop := cellCoversRow.holds Try.pinned (OpenSpec.ofChange cellCoversSpec)

/-- ITS FALSE NEIGHBOUR: 'it returns false'. Refute it at one input. -/
def cellCoversWrong : ChangeSpec := { name := "cellCovers", fn := fun _ => fun
  | [d1, d2, d3] => { results := [.lit (.bool false)], args := [d1, d2, d3] }
  | _ => none }
def CellCoversWrongFalsely : Prop := cellCoversRow.holds Try.pinned (OpenSpec.ofChange cellCoversWrong)

/- THE SECOND FORM. 'bulk': how many values and letters a reading holds, each counted each time it is reached (what is shared counts as often as it is met; a slice's spare places count too). A statement '..UptoSaid' is the law's where the arguments, and the package variables that the reading takes, are together of bulk at most 1048576: NARROWER than '..Said'. Prove '..Said' where nothing that the law and all that it calls make is longer than what came in: it says more and counts as full. Else prove '..UptoSaid'. A law counts once. -/
mutual
def uptoBulk {H : Type} : DataW H → Nat
  | .lit (.string bytes) => bytes.length + 1
  | .lit _ => 1
  | .nil => 1
  | .ptr d => uptoBulk d + 1
  | .slice elems spare => uptoBulkAll elems + uptoBulkAll spare + 1
  | .agg parts => uptoBulkAll parts + 1
  | .iface _ d => uptoBulk d + 1
  | .map entries => uptoBulkEntries entries + 1
  | .held _ => 1
def uptoBulkAll {H : Type} : List (DataW H) → Nat
  | [] => 0
  | d :: r => uptoBulk d + uptoBulkAll r
def uptoBulkEntries {H : Type} : List (Lit × DataW H) → Nat
  | [] => 0
  | x :: r => uptoBulkEntry x + uptoBulkEntries r
def uptoBulkEntry {H : Type} : Lit × DataW H → Nat
  | (.string bytes, d) => bytes.length + uptoBulk d + 1
  | (_, d) => uptoBulk d + 1
 end
def uptoSmall : (H : Type) → List (DataW H) → Bool := fun _ ds => decide (uptoBulkAll ds ≤ 1048576)
def OpenSpec.upto (s : _root_.Go.ChangeSpec) : _root_.Go.OpenSpec := { _root_.Go.OpenSpec.ofChange s with cond := some uptoSmall }

/-- 'snafflelaw08.CellRight', WHERE WHAT IT READS IS OF BULK AT MOST 1048576: true; the input reads as it did. -/
def cellRightUptoRow : OpenClaim := { program := "ytkpapjdlpjjmbaa", sum := "67fc1b1c026b5cc5bf4864051aa1db61ab587060c62be120b75f9d3b585fd53f", func := "snaffle/snafflelaw08.CellRight", spec := "cellRight", unfollowed := true, recurses := true, apart := false, narrowed := true }
def CellRightUptoSaid : Prop := cellRightUptoRow.holds Try.pinned (OpenSpec.upto cellRightSpec)

/-- 'snafflelaw08.CellBack', WHERE WHAT IT READS IS OF BULK AT MOST 1048576: true; the input reads as it did. -/
def cellBackUptoRow : OpenClaim := { program := "ytkpapjdlpjjmbaa", sum := "67fc1b1c026b5cc5bf4864051aa1db61ab587060c62be120b75f9d3b585fd53f", func := "snaffle/snafflelaw08.CellBack", spec := "cellBack", unfollowed := true, recurses := true, apart := false, narrowed := true }
def CellBackUptoSaid : Prop := cellBackUptoRow.holds Try.pinned (OpenSpec.upto cellBackSpec)

/-- 'snafflelaw08.CellDone', WHERE WHAT IT READS IS OF BULK AT MOST 1048576: true; the input reads as it did. -/
def cellDoneUptoRow : OpenClaim := { program := "ytkpapjdlpjjmbaa", sum := "67fc1b1c026b5cc5bf4864051aa1db61ab587060c62be120b75f9d3b585fd53f", func := "snaffle/snafflelaw08.CellDone", spec := "cellDone", unfollowed := true, recurses := true, apart := false, narrowed := true }
def CellDoneUptoSaid : Prop := cellDoneUptoRow.holds Try.pinned (OpenSpec.upto cellDoneSpec)

/-- 'snafflelaw08.CellCovers', WHERE WHAT IT READS IS OF BULK AT MOST 1048576: true; the input reads as it did. -/
def cellCoversUptoRow : OpenClaim := { program := "ytkpapjdlpjjmbaa", sum := "67fc1b1c026b5cc5bf4864051aa1db61ab587060c62be120b75f9d3b585fd53f", func := "snaffle/snafflelaw08.CellCovers", spec := "cellCovers", unfollowed := true, recurses := true, apart := false, narrowed := true }
def CellCoversUptoSaid : Prop := cellCoversUptoRow.holds Try.pinned (OpenSpec.upto cellCoversSpec)

end Rows
end Go.Proofs.Ytkpapjdlpjjmbaa
