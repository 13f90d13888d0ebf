/-
  NARROWER THAN 'FOR EVERY INPUT', by the rows' own cells (each row's printed sentence says how): LeastIs: loops · LeastPaths: loops · LeastSums: loops · LeastFits: loops.
  DERIVED. THE GIVEN ROWS OF THIS SEAT. 4 by the template 'for every input the law returns true; each argument reads behind the call as it read before'; 0 by the template 'total and deterministic' (their statements: YtajhojbnpajelaaTotals.lean).
  GIVEN WITH THE SEED: the statements are not yours to turn. If you find one false, say at which input.
  Laid BY PROGRAM, IN A SANDBOX (cutbox-rows.mjs): the forced cells as the released guide's own fill.sh prints them over the translation 88cb71b09143c221… (all of the seat's roots in one cut). By AI agents, Wed Nov 11 2026. No macro, syntax, notation, axiom, sorry.
-/
import Derived.Test.YtajhojbnpajelaaChecked
import GoSem.Claim
import GoSem.ClaimJoined
import GoSem.ClaimMapViews
import Derived.JoinedTies
import Derived.KernelRfl
namespace Go.Proofs.Ytajhojbnpajelaa
/- THE CELL 'sum', in the pinned program and in every row, IS THE sha256 OF THE DUMP (.gsa) THAT YtajhojbnpajelaaProg.lean LOADS. Nothing in Lean hashes anything: it is a label: what it is worth is what the hold of that sum in a sandbox is worth. -/
noncomputable def Try.pinned : Pinned := { name := "ytajhojbnpajelaa", sum := "88cb71b09143c221eb04785a9bae1a08d314e2628b1eb27ad53dc81b9a85925a", checked := Try.checked }
namespace Rows
def none {H : Type} : Left H := { results := [], args := [] }

/-- 'sashlaw08.LeastIs': WHATEVER THE INPUT: true; the input reads as it did. -/
def leastIsSpec : ChangeSpec := { name := "leastIs", fn := fun _ => fun
  | [d1, d2, d3, d4] => { results := [.lit (.bool true)], args := [d1, d2, d3, d4] }
  | _ => none }
def leastIsRow : OpenClaim := { program := "ytajhojbnpajelaa", sum := "88cb71b09143c221eb04785a9bae1a08d314e2628b1eb27ad53dc81b9a85925a", func := "sash/sashlaw08.LeastIs", spec := "leastIs", unfollowed := true, recurses := true, loops := true, apart := false }
def LeastIsSaid : Prop := leastIsRow.holds Try.pinned (OpenSpec.ofChange leastIsSpec)

/-- ITS FALSE NEIGHBOUR: 'it returns false'. Refute it at one input. -/
def leastIsWrong : ChangeSpec := { name := "leastIs", fn := fun _ => fun
  | [d1, d2, d3, d4] => { results := [.lit (.bool false)], args := [d1, d2, d3, d4] }
  | _ => none }
def LeastIsWrongFalsely : Prop := leastIsRow.holds Try.pinned (OpenSpec.ofChange leastIsWrong)

/-- 'sashlaw08.LeastPaths': WHATEVER THE INPUT: true; the input reads as it did. -/
def leastPathsSpec : ChangeSpec := { name := "leastPaths", fn := fun _ => fun
  | [d1, d2, d3, d4] => { results := [.lit (.bool true)], args := [d1, d2, d3, d4] }
  | _ => none }
def leastPathsRow : OpenClaim := { program := "ytajhojbnpajelaa", sum := "88cb71b09143c221eb04785a9bae1a08d314e2628b1eb27ad53dc81b9a85925a", func := "sash/sashlaw08.LeastPaths", spec := "leastPaths", unfollowed := true, recurses := true, loops := true, apart := false }
def LeastPathsSaid : Prop := leastPathsRow.holds Try.pinned (OpenSpec.ofChange leastPathsSpec)

/-- ITS FALSE NEIGHBOUR: 'it returns false'. Refute it at one input. -/
def leastPathsWrong : ChangeSpec := { name := "leastPaths", fn := fun _ => fun
  | [d1, d2, d3, d4] => { results := [.lit (.bool false)], args := [d1, d2, d3, d4] }
  | _ => none }
def LeastPathsWrongFalsely : Prop := leastPathsRow.holds Try.pinned (OpenSpec.ofChange leastPathsWrong)

/-- 'sashlaw08.LeastSums': WHATEVER THE INPUT: true; the input reads as it did. -/
def leastSumsSpec : ChangeSpec := { name := "leastSums", fn := fun _ => fun
  | [d1, d2] => { results := [.lit (.bool true)], args := [d1, d2] }
  | _ => none }
def leastSumsRow : OpenClaim := { program := "ytajhojbnpajelaa", sum := "88cb71b09143c221eb04785a9bae1a08d314e2628b1eb27ad53dc81b9a85925a", func := "sash/sashlaw08.LeastSums", spec := "leastSums", unfollowed := true, recurses := true, loops := true, apart := false }
def LeastSumsSaid : Prop := leastSumsRow.holds Try.pinned (OpenSpec.ofChange leastSumsSpec)

/-- ITS FALSE NEIGHBOUR: 'it returns false'. Refute it at one input. -/
def leastSumsWrong : ChangeSpec := { name := "leastSums", fn := fun _ => fun
  | [d1, d2] => { results := [.lit (.bool false)], args := [d1, d2] }
  | _ => none }
def LeastSumsWrongFalsely : Prop := leastSumsRow.holds Try.pinned (OpenSpec.ofChange leastSumsWrong)

/-- 'sashlaw08.LeastFits': WHATEVER THE INPUT: true; the input reads as it did. -/
def leastFitsSpec : ChangeSpec := { name := "leastFits", fn := fun _ => fun
  | [d] => { results := [.lit (.bool true)], args := [d] }
  | _ => none }
def leastFitsRow : OpenClaim := { program := "ytajhojbnpajelaa", sum := "88cb71b09143c221eb04785a9bae1a08d314e2628b1eb27ad53dc81b9a85925a", func := "sash/sashlaw08.LeastFits", spec := "leastFits", unfollowed := true, recurses := true, loops := true, apart := false }
def LeastFitsSaid : Prop := leastFitsRow.holds Try.pinned (OpenSpec.ofChange leastFitsSpec)

/-- ITS FALSE NEIGHBOUR: 'it returns false'. Refute it at one input. -/
def leastFitsWrong : ChangeSpec := { name := "leastFits", fn := fun _ => fun
  | [d] => { results := [.lit (.bool false)], args := [d] }
  | _ => none }
def LeastFitsWrongFalsely : Prop := leastFitsRow.holds Try.pinned (OpenSpec.ofChange leastFitsWrong)

/- THE SECOND FORM. 'bulk': how many values and letters a reading holds, each counted each time it is reached (what is shared counts as often as it is met; a slice's spare places count too). A statement '..UptoSaid' is the law's where the arguments, and the package variables that the reading takes, are together of bulk at most 1048576: NARROWER than '..Said'. Prove '..Said' where nothing that the law and all that it calls make is longer than what came in: it says more and counts as full. Else prove '..UptoSaid'. A law counts once. -/
mutual
def uptoBulk {H : Type} : DataW H → Nat
  | .lit (.string bytes) => bytes.length + 1
  | .lit _ => 1
  | .nil => 1
  | .ptr d => uptoBulk d + 1
  | .slice elems spare => uptoBulkAll elems + uptoBulkAll spare + 1
  | .agg parts => uptoBulkAll parts + 1
  | .iface _ d => uptoBulk d + 1
  | .map entries => uptoBulkEntries entries + 1
  | .held _ => 1
def uptoBulkAll {H : Type} : List (DataW H) → Nat
  | [] => 0
  | d :: r => uptoBulk d + uptoBulkAll r
def uptoBulkEntries {H : Type} : List (Lit × DataW H) → Nat
  | [] => 0
  | x :: r => uptoBulkEntry x + uptoBulkEntries r
def uptoBulkEntry {H : Type} : Lit × DataW H → Nat
  | (.string bytes, d) => bytes.length + uptoBulk d + 1
  | (_, d) => uptoBulk d + 1
 end
def uptoSmall : (H : Type) → List (DataW H) → Bool := fun _ ds => decide (uptoBulkAll ds ≤ 1048576)
def OpenSpec.upto (s : _root_.Go.ChangeSpec) : _root_.Go.OpenSpec := { _root_.Go.OpenSpec.ofChange s with cond := some uptoSmall }

/-- 'sashlaw08.LeastIs', WHERE WHAT IT READS IS OF BULK AT MOST 1048576: true; the input reads as it did. -/
def leastIsUptoRow : OpenClaim := { program := "ytajhojbnpajelaa", sum := "88cb71b09143c221eb04785a9bae1a08d314e2628b1eb27ad53dc81b9a85925a", func := "sash/sashlaw08.LeastIs", spec := "leastIs", unfollowed := true, recurses := true, loops := true, apart := false, narrowed := true }
def LeastIsUptoSaid : Prop := leastIsUptoRow.holds Try.pinned (OpenSpec.upto leastIsSpec)

/-- 'sashlaw08.LeastPaths', WHERE WHAT IT READS IS OF BULK AT MOST 1048576: true; the input reads as it did. -/
def leastPathsUptoRow : OpenClaim := { program := "ytajhojbnpajelaa", sum := "88cb71b09143c221eb04785a9bae1a08d314e2628b1eb27ad53dc81b9a85925a", func := "sash/sashlaw08.LeastPaths", spec := "leastPaths", unfollowed := true, recurses := true, loops := true, apart := false, narrowed := true }
def LeastPathsUptoSaid : Prop := leastPathsUptoRow.holds Try.pinned (OpenSpec.upto leastPathsSpec)

/-- 'sashlaw08.LeastSums', WHERE WHAT IT READS IS OF BULK AT MOST 1048576: true; the input reads as it did. -/
def leastSumsUptoRow : OpenClaim := { program := "ytajhojbnpajelaa", sum := "88cb71b09143c221eb04785a9bae1a08d314e2628b1eb27ad53dc81b9a85925a", func := "sash/sashlaw08.LeastSums", spec := "leastSums", unfollowed := true, recurses := true, loops := true, apart := false, narrowed := true }
def LeastSumsUptoSaid : Prop := leastSumsUptoRow.holds Try.pinned (OpenSpec.upto leastSumsSpec)

/-- 'sashlaw08.LeastFits', WHERE WHAT IT READS IS OF BULK AT MOST 1048576: true; the input reads as it did. -/
def leastFitsUptoRow : OpenClaim := { program := "ytajhojbnpajelaa", sum := "88cb71b09143c221eb04785a9bae1a08d314e2628b1eb27ad53dc81b9a85925a", func := "sash/sashlaw08.LeastFits", spec := "leastFits", unfollowed := true, recurses := true, loops := true, apart := false, narrowed := true }
def LeastFitsUptoSaid : Prop := leastFitsUptoRow.holds Try.pinned (OpenSpec.upto leastFitsSpec)

end Rows
end Go.Proofs.Ytajhojbnpajelaa
