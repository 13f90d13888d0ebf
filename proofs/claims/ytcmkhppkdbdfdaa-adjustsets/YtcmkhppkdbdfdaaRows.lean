/-
  NARROWER THAN 'FOR EVERY INPUT', by the rows' own cells (each row's printed sentence says how): AdjustSets: loops.
  DERIVED. THE GIVEN ROWS OF THIS SEAT. 3 by the template 'for every input the law returns true; each argument reads behind the call as it read before'; 0 by the template 'total and deterministic' (their statements: YtcmkhppkdbdfdaaTotals.lean).
  GIVEN WITH THE SEED: the statements are not yours to turn. If you find one false, say at which input.
  Laid BY PROGRAM, IN A SANDBOX (cutbox-rows.mjs): the forced cells as the released guide's own fill.sh prints them over the translation 5f75dfbbb2638852… (all of the seat's roots in one cut). By AI agents, Wed Nov 11 2026. No macro, syntax, notation, axiom, sorry.
-/
import Derived.Test.YtcmkhppkdbdfdaaChecked
import GoSem.Claim
import GoSem.ClaimJoined
import GoSem.ClaimMapViews
import Derived.JoinedTies
import Derived.KernelRfl
namespace Go.Proofs.Ytcmkhppkdbdfdaa
/- THE CELL 'sum', in the pinned program and in every row, IS THE sha256 OF THE DUMP (.gsa) THAT YtcmkhppkdbdfdaaProg.lean LOADS. Nothing in Lean hashes anything: it is a label: what it is worth is what the hold of that sum in a sandbox is worth. -/
noncomputable def Try.pinned : Pinned := { name := "ytcmkhppkdbdfdaa", sum := "5f75dfbbb2638852f90a79866667ededcef844b76347c4e0bb314d6c6c089c38", checked := Try.checked }
namespace Rows
def none {H : Type} : Left H := { results := [], args := [] }

/-- 'sashlaw09.AdjustShares': WHATEVER THE INPUT: true; the input reads as it did. -/
def adjustSharesSpec : ChangeSpec := { name := "adjustShares", fn := fun _ => fun
  | [d1, d2] => { results := [.lit (.bool true)], args := [d1, d2] }
  | _ => none }
def adjustSharesRow : OpenClaim := { program := "ytcmkhppkdbdfdaa", sum := "5f75dfbbb2638852f90a79866667ededcef844b76347c4e0bb314d6c6c089c38", func := "sash/sashlaw09.AdjustShares", spec := "adjustShares", unfollowed := true, recurses := true, apart := false }
def AdjustSharesSaid : Prop := adjustSharesRow.holds Try.pinned (OpenSpec.ofChange adjustSharesSpec)

/-- ITS FALSE NEIGHBOUR: 'it returns false'. Refute it at one input. -/
def adjustSharesWrong : ChangeSpec := { name := "adjustShares", fn := fun _ => fun
  | [d1, d2] => { results := [.lit (.bool false)], args := [d1, d2] }
  | _ => none }
def AdjustSharesWrongFalsely : Prop := adjustSharesRow.holds Try.pinned (OpenSpec.ofChange adjustSharesWrong)

/-- 'sashlaw09.AdjustSets': WHATEVER THE INPUT: true; the input reads as it did. -/
def adjustSetsSpec : ChangeSpec := { name := "adjustSets", fn := fun _ => fun
  | [d1, d2, d3] => { results := [.lit (.bool true)], args := [d1, d2, d3] }
  | _ => none }
def adjustSetsRow : OpenClaim := { program := "ytcmkhppkdbdfdaa", sum := "5f75dfbbb2638852f90a79866667ededcef844b76347c4e0bb314d6c6c089c38", func := "sash/sashlaw09.AdjustSets", spec := "adjustSets", unfollowed := true, recurses := true, loops := true, apart := false }
def AdjustSetsSaid : Prop := adjustSetsRow.holds Try.pinned (OpenSpec.ofChange adjustSetsSpec)

/-- ITS FALSE NEIGHBOUR: 'it returns false'. Refute it at one input. -/
def adjustSetsWrong : ChangeSpec := { name := "adjustSets", fn := fun _ => fun
  | [d1, d2, d3] => { results := [.lit (.bool false)], args := [d1, d2, d3] }
  | _ => none }
def AdjustSetsWrongFalsely : Prop := adjustSetsRow.holds Try.pinned (OpenSpec.ofChange adjustSetsWrong)

/-- 'sashlaw09.AdjustEvens': WHATEVER THE INPUT: true; the input reads as it did. -/
def adjustEvensSpec : ChangeSpec := { name := "adjustEvens", fn := fun _ => fun
  | [d1, d2] => { results := [.lit (.bool true)], args := [d1, d2] }
  | _ => none }
def adjustEvensRow : OpenClaim := { program := "ytcmkhppkdbdfdaa", sum := "5f75dfbbb2638852f90a79866667ededcef844b76347c4e0bb314d6c6c089c38", func := "sash/sashlaw09.AdjustEvens", spec := "adjustEvens", unfollowed := true, recurses := true, apart := false }
def AdjustEvensSaid : Prop := adjustEvensRow.holds Try.pinned (OpenSpec.ofChange adjustEvensSpec)

/-- ITS FALSE NEIGHBOUR: 'it returns false'. Refute it at one input. -/
def adjustEvensWrong : ChangeSpec := { name := "adjustEvens", fn := fun _ => fun
  | [d1, d2] => { results := [.lit (.bool false)], args := [d1, d2] }
  | _ => none }
def AdjustEvensWrongFalsely : Prop := adjustEvensRow.holds Try.pinned (OpenSpec.ofChange adjustEvensWrong)

/- THE SECOND FORM. 'bulk': how many values and letters a reading holds, each counted each time it is reached (what is shared counts as often as it is met; a slice's spare places count too). A statement '..UptoSaid' is the law's where the arguments, and the package variables that the reading takes, are together of bulk at most 1048576: NARROWER than '..Said'. Prove '..Said' where nothing that the law and all that it calls make is longer than what came in: it says more and counts as full. Else prove '..UptoSaid'. A law counts once. -/
mutual
def uptoBulk {H : Type} : DataW H → Nat
  | .lit (.string bytes) => bytes.length + 1
  | .lit _ => 1
  | .nil => 1
  | .ptr d => uptoBulk d + 1
  | .slice elems spare => uptoBulkAll elems + uptoBulkAll spare + 1
  | .agg parts => uptoBulkAll parts + 1
  | .iface _ d => uptoBulk d + 1
  | .map entries => uptoBulkEntries entries + 1
  | .held _ => 1
def uptoBulkAll {H : Type} : List (DataW H) → Nat
  | [] => 0
  | d :: r => uptoBulk d + uptoBulkAll r
def uptoBulkEntries {H : Type} : List (Lit × DataW H) → Nat
  | [] => 0
  | x :: r => uptoBulkEntry x + uptoBulkEntries r
def uptoBulkEntry {H : Type} : Lit × DataW H → Nat
  | (.string bytes, d) => bytes.length + uptoBulk d + 1
  | (_, d) => uptoBulk d + 1
 end
def uptoSmall : (H : Type) → List (DataW H) → Bool := fun _ ds => decide (uptoBulkAll ds ≤ 1048576)
def OpenSpec.upto (s : _root_.Go.ChangeSpec) : _root_.Go.OpenSpec := { _root_.Go.OpenSpec.ofChange s with cond := some uptoSmall }

/-- 'sashlaw09.AdjustShares', WHERE WHAT IT READS IS OF BULK AT MOST 1048576: true; the input reads as it did. -/
def adjustSharesUptoRow : OpenClaim := { program := "ytcmkhppkdbdfdaa", sum := "5f75dfbbb2638852f90a79866667ededcef844b76347c4e0bb314d6c6c089c38", func := "sash/sashlaw09.AdjustShares", spec := "adjustShares", unfollowed := true, recurses := true, apart := false, narrowed := true }
def AdjustSharesUptoSaid : Prop := adjustSharesUptoRow.holds Try.pinned (OpenSpec.upto adjustSharesSpec)

/-- 'sashlaw09.AdjustSets', WHERE WHAT IT READS IS OF BULK AT MOST 1048576: true; the input reads as it did. -/
def adjustSetsUptoRow : OpenClaim := { program := "ytcmkhppkdbdfdaa", sum := "5f75dfbbb2638852f90a79866667ededcef844b76347c4e0bb314d6c6c089c38", func := "sash/sashlaw09.AdjustSets", spec := "adjustSets", unfollowed := true, recurses := true, loops := true, apart := false, narrowed := true }
def AdjustSetsUptoSaid : Prop := adjustSetsUptoRow.holds Try.pinned (OpenSpec.upto adjustSetsSpec)

/-- 'sashlaw09.AdjustEvens', WHERE WHAT IT READS IS OF BULK AT MOST 1048576: true; the input reads as it did. -/
def adjustEvensUptoRow : OpenClaim := { program := "ytcmkhppkdbdfdaa", sum := "5f75dfbbb2638852f90a79866667ededcef844b76347c4e0bb314d6c6c089c38", func := "sash/sashlaw09.AdjustEvens", spec := "adjustEvens", unfollowed := true, recurses := true, apart := false, narrowed := true }
def AdjustEvensUptoSaid : Prop := adjustEvensUptoRow.holds Try.pinned (OpenSpec.upto adjustEvensSpec)

end Rows
end Go.Proofs.Ytcmkhppkdbdfdaa
