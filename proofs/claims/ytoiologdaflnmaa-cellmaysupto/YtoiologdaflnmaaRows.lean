/-
  NARROWER THAN 'FOR EVERY INPUT', by the rows' own cells (each row's printed sentence says how): CellMays: loops · CellCounts: loops · CellFinds: loops · CellPuts: loops · CellSame: loops.
  DERIVED. THE GIVEN ROWS OF THIS SEAT. 5 by the template 'for every input the law returns true; each argument reads behind the call as it read before'; 0 by the template 'total and deterministic' (their statements: YtoiologdaflnmaaTotals.lean).
  GIVEN WITH THE SEED: the statements are not yours to turn. If you find one false, say at which input.
  Laid BY PROGRAM, IN A SANDBOX (cutbox-rows.mjs): the forced cells as the released guide's own fill.sh prints them over the translation 8fbb39ef67bb7b1e… (all of the seat's roots in one cut). By AI agents, Wed Nov 11 2026. No macro, syntax, notation, axiom, sorry.
-/
import Derived.Test.YtoiologdaflnmaaChecked
import GoSem.Claim
import GoSem.ClaimJoined
import GoSem.ClaimMapViews
import Derived.JoinedTies
import Derived.KernelRfl
namespace Go.Proofs.Ytoiologdaflnmaa
/- THE CELL 'sum', in the pinned program and in every row, IS THE sha256 OF THE DUMP (.gsa) THAT YtoiologdaflnmaaProg.lean LOADS. Nothing in Lean hashes anything: it is a label: what it is worth is what the hold of that sum in a sandbox is worth. -/
noncomputable def Try.pinned : Pinned := { name := "ytoiologdaflnmaa", sum := "8fbb39ef67bb7b1e1282bbdf39c6d9014cc790c1a2e68eb30d620a7de9b8aac3", checked := Try.checked }
namespace Rows
def none {H : Type} : Left H := { results := [], args := [] }

/-- 'sashlaw05.CellMays': WHATEVER THE INPUT: true; the input reads as it did. -/
def cellMaysSpec : ChangeSpec := { name := "cellMays", fn := fun _ => fun
  | [d] => { results := [.lit (.bool true)], args := [d] }
  | _ => none }
def cellMaysRow : OpenClaim := { program := "ytoiologdaflnmaa", sum := "8fbb39ef67bb7b1e1282bbdf39c6d9014cc790c1a2e68eb30d620a7de9b8aac3", func := "sash/sashlaw05.CellMays", spec := "cellMays", unfollowed := true, recurses := true, loops := true, apart := false }
def CellMaysSaid : Prop := cellMaysRow.holds Try.pinned (OpenSpec.ofChange cellMaysSpec)

/-- ITS FALSE NEIGHBOUR: 'it returns false'. Refute it at one input. -/
def cellMaysWrong : ChangeSpec := { name := "cellMays", fn := fun _ => fun
  | [d] => { results := [.lit (.bool false)], args := [d] }
  | _ => none }
def CellMaysWrongFalsely : Prop := cellMaysRow.holds Try.pinned (OpenSpec.ofChange cellMaysWrong)

/-- 'sashlaw05.CellCounts': WHATEVER THE INPUT: true; the input reads as it did. -/
def cellCountsSpec : ChangeSpec := { name := "cellCounts", fn := fun _ => fun
  | [d] => { results := [.lit (.bool true)], args := [d] }
  | _ => none }
def cellCountsRow : OpenClaim := { program := "ytoiologdaflnmaa", sum := "8fbb39ef67bb7b1e1282bbdf39c6d9014cc790c1a2e68eb30d620a7de9b8aac3", func := "sash/sashlaw05.CellCounts", spec := "cellCounts", unfollowed := true, recurses := true, loops := true, apart := false }
def CellCountsSaid : Prop := cellCountsRow.holds Try.pinned (OpenSpec.ofChange cellCountsSpec)

/-- ITS FALSE NEIGHBOUR: 'it returns false'. Refute it at one input. -/
def cellCountsWrong : ChangeSpec := { name := "cellCounts", fn := fun _ => fun
  | [d] => { results := [.lit (.bool false)], args := [d] }
  | _ => none }
def CellCountsWrongFalsely : Prop := cellCountsRow.holds Try.pinned (OpenSpec.ofChange cellCountsWrong)

/-- 'sashlaw05.CellFinds': WHATEVER THE INPUT: true; the input reads as it did. -/
def cellFindsSpec : ChangeSpec := { name := "cellFinds", fn := fun _ => fun
  | [d1, d2, d3] => { results := [.lit (.bool true)], args := [d1, d2, d3] }
  | _ => none }
def cellFindsRow : OpenClaim := { program := "ytoiologdaflnmaa", sum := "8fbb39ef67bb7b1e1282bbdf39c6d9014cc790c1a2e68eb30d620a7de9b8aac3", func := "sash/sashlaw05.CellFinds", spec := "cellFinds", unfollowed := true, recurses := true, loops := true, apart := false }
def CellFindsSaid : Prop := cellFindsRow.holds Try.pinned (OpenSpec.ofChange cellFindsSpec)

/-- ITS FALSE NEIGHBOUR: 'it returns false'. Refute it at one input. -/
def cellFindsWrong : ChangeSpec := { name := "cellFinds", fn := fun _ => fun
  | [d1, d2, d3] => { results := [.lit (.bool false)], args := [d1, d2, d3] }
  | _ => none }
def CellFindsWrongFalsely : Prop := cellFindsRow.holds Try.pinned (OpenSpec.ofChange cellFindsWrong)

/-- 'sashlaw05.CellPuts': WHATEVER THE INPUT: true; the input reads as it did. -/
def cellPutsSpec : ChangeSpec := { name := "cellPuts", fn := fun _ => fun
  | [d1, d2, d3, d4] => { results := [.lit (.bool true)], args := [d1, d2, d3, d4] }
  | _ => none }
def cellPutsRow : OpenClaim := { program := "ytoiologdaflnmaa", sum := "8fbb39ef67bb7b1e1282bbdf39c6d9014cc790c1a2e68eb30d620a7de9b8aac3", func := "sash/sashlaw05.CellPuts", spec := "cellPuts", unfollowed := true, recurses := true, loops := true, apart := false }
def CellPutsSaid : Prop := cellPutsRow.holds Try.pinned (OpenSpec.ofChange cellPutsSpec)

/-- ITS FALSE NEIGHBOUR: 'it returns false'. Refute it at one input. -/
def cellPutsWrong : ChangeSpec := { name := "cellPuts", fn := fun _ => fun
  | [d1, d2, d3, d4] => { results := [.lit (.bool false)], args := [d1, d2, d3, d4] }
  | _ => none }
def CellPutsWrongFalsely : Prop := cellPutsRow.holds Try.pinned (OpenSpec.ofChange cellPutsWrong)

/-- 'sashlaw05.CellSame': WHATEVER THE INPUT: true; the input reads as it did. -/
def cellSameSpec : ChangeSpec := { name := "cellSame", fn := fun _ => fun
  | [d1, d2, d3, d4] => { results := [.lit (.bool true)], args := [d1, d2, d3, d4] }
  | _ => none }
def cellSameRow : OpenClaim := { program := "ytoiologdaflnmaa", sum := "8fbb39ef67bb7b1e1282bbdf39c6d9014cc790c1a2e68eb30d620a7de9b8aac3", func := "sash/sashlaw05.CellSame", spec := "cellSame", unfollowed := true, recurses := true, loops := true, apart := false }
def CellSameSaid : Prop := cellSameRow.holds Try.pinned (OpenSpec.ofChange cellSameSpec)

/-- ITS FALSE NEIGHBOUR: 'it returns false'. Refute it at one input. -/
def cellSameWrong : ChangeSpec := { name := "cellSame", fn := fun _ => fun
  | [d1, d2, d3, d4] => { results := [.lit (.bool false)], args := [d1, d2, d3, d4] }
  | _ => none }
def CellSameWrongFalsely : Prop := cellSameRow.holds Try.pinned (OpenSpec.ofChange cellSameWrong)

/- THE SECOND FORM. 'bulk': how many values and letters a reading holds, each counted each time it is reached (what is shared counts as often as it is met; a slice's spare places count too). A statement '..UptoSaid' is the law's where the arguments, and the package variables that the reading takes, are together of bulk at most 1048576: NARROWER than '..Said'. Prove '..Said' where nothing that the law and all that it calls make is longer than what came in: it says more and counts as full. Else prove '..UptoSaid'. A law counts once. -/
mutual
def uptoBulk {H : Type} : DataW H → Nat
  | .lit (.string bytes) => bytes.length + 1
  | .lit _ => 1
  | .nil => 1
  | .ptr d => uptoBulk d + 1
  | .slice elems spare => uptoBulkAll elems + uptoBulkAll spare + 1
  | .agg parts => uptoBulkAll parts + 1
  | .iface _ d => uptoBulk d + 1
  | .map entries => uptoBulkEntries entries + 1
  | .held _ => 1
def uptoBulkAll {H : Type} : List (DataW H) → Nat
  | [] => 0
  | d :: r => uptoBulk d + uptoBulkAll r
def uptoBulkEntries {H : Type} : List (Lit × DataW H) → Nat
  | [] => 0
  | x :: r => uptoBulkEntry x + uptoBulkEntries r
def uptoBulkEntry {H : Type} : Lit × DataW H → Nat
  | (.string bytes, d) => bytes.length + uptoBulk d + 1
  | (_, d) => uptoBulk d + 1
 end
def uptoSmall : (H : Type) → List (DataW H) → Bool := fun _ ds => decide (uptoBulkAll ds ≤ 1048576)
def OpenSpec.upto (s : _root_.Go.ChangeSpec) : _root_.Go.OpenSpec := { _root_.Go.OpenSpec.ofChange s with cond := some uptoSmall }

/-- 'sashlaw05.CellMays', WHERE WHAT IT READS IS OF BULK AT MOST 1048576: true; the input reads as it did. -/
def cellMaysUptoRow : OpenClaim := { program := "ytoiologdaflnmaa", sum := "8fbb39ef67bb7b1e1282bbdf39c6d9014cc790c1a2e68eb30d620a7de9b8aac3", func := "sash/sashlaw05.CellMays", spec := "cellMays", unfollowed := true, recurses := true, loops := true, apart := false, narrowed := true }
def CellMaysUptoSaid : Prop := cellMaysUptoRow.holds Try.pinned (OpenSpec.upto cellMaysSpec)

/-- 'sashlaw05.CellCounts', WHERE WHAT IT READS IS OF BULK AT MOST 1048576: true; the input reads as it did. -/
def cellCountsUptoRow : OpenClaim := { program := "ytoiologdaflnmaa", sum := "8fbb39ef67bb7b1e1282bbdf39c6d9014cc790c1a2e68eb30d620a7de9b8aac3", func := "sash/sashlaw05.CellCounts", spec := "cellCounts", unfollowed := true, recurses := true, loops := true, apart := false, narrowed := true }
def CellCountsUptoSaid : Prop := cellCountsUptoRow.holds Try.pinned (OpenSpec.upto cellCountsSpec)

/-- 'sashlaw05.CellFinds', WHERE WHAT IT READS IS OF BULK AT MOST 1048576: true; the input reads as it did. -/
def cellFindsUptoRow : OpenClaim := { program := "ytoiologdaflnmaa", sum := "8fbb39ef67bb7b1e1282bbdf39c6d9014cc790c1a2e68eb30d620a7de9b8aac3", func := "sash/sashlaw05.CellFinds", spec := "cellFinds", unfollowed := true, recurses := true, loops := true, apart := false, narrowed := true }
def CellFindsUptoSaid : Prop := cellFindsUptoRow.holds Try.pinned (OpenSpec.upto cellFindsSpec)

/-- 'sashlaw05.CellPuts', WHERE WHAT IT READS IS OF BULK AT MOST 1048576: true; the input reads as it did. -/
def cellPutsUptoRow : OpenClaim := { program := "ytoiologdaflnmaa", sum := "8fbb39ef67bb7b1e1282bbdf39c6d9014cc790c1a2e68eb30d620a7de9b8aac3", func := "sash/sashlaw05.CellPuts", spec := "cellPuts", unfollowed := true, recurses := true, loops := true, apart := false, narrowed := true }
def CellPutsUptoSaid : Prop := cellPutsUptoRow.holds Try.pinned (OpenSpec.upto cellPutsSpec)

/-- 'sashlaw05.CellSame', WHERE WHAT IT READS IS OF BULK AT MOST 1048576: true; the input reads as it did. -/
def cellSameUptoRow : OpenClaim := { program := "ytoiologdaflnmaa", sum := "8fbb39ef67bb7b1e1282bbdf39c6d9014cc790c1a2e68eb30d620a7de9b8aac3", func := "sash/sashlaw05.CellSame", spec := "cellSame", unfollowed := true, recurses := true, loops := true, apart := false, narrowed := true }
def CellSameUptoSaid : Prop := cellSameUptoRow.holds Try.pinned (OpenSpec.upto cellSameSpec)

end Rows
end Go.Proofs.Ytoiologdaflnmaa
