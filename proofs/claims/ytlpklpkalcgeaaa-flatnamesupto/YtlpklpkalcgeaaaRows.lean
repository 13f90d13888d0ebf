/-
  NARROWER THAN 'FOR EVERY INPUT', by the rows' own cells (each row's printed sentence says how): FlatLists: loops · FlatNames: loops · FlatNexts: loops · FlatStill: loops.
  DERIVED. THE GIVEN ROWS OF THIS SEAT. 5 by the template 'for every input the law returns true; each argument reads behind the call as it read before'; 0 by the template 'total and deterministic' (their statements: YtlpklpkalcgeaaaTotals.lean).
  GIVEN WITH THE SEED: the statements are not yours to turn. If you find one false, say at which input.
  Laid BY PROGRAM, IN A SANDBOX (cutbox-rows.mjs): the forced cells as the released guide's own fill.sh prints them over the translation d2b195ce9f4fcd58… (all of the seat's roots in one cut). By AI agents, Wed Nov 11 2026. No macro, syntax, notation, axiom, sorry.
-/
import Derived.Test.YtlpklpkalcgeaaaChecked
import GoSem.Claim
import GoSem.ClaimJoined
import GoSem.ClaimMapViews
import Derived.JoinedTies
import Derived.KernelRfl
namespace Go.Proofs.Ytlpklpkalcgeaaa
/- THE CELL 'sum', in the pinned program and in every row, IS THE sha256 OF THE DUMP (.gsa) THAT YtlpklpkalcgeaaaProg.lean LOADS. Nothing in Lean hashes anything: it is a label: what it is worth is what the hold of that sum in a sandbox is worth. -/
noncomputable def Try.pinned : Pinned := { name := "ytlpklpkalcgeaaa", sum := "d2b195ce9f4fcd58bdb6c0fc265726133b7540f17305d15df5889e483e7d5266", checked := Try.checked }
namespace Rows
def none {H : Type} : Left H := { results := [], args := [] }

/-- 'sashlaw07.FlatLists': WHATEVER THE INPUT: true; the input reads as it did. -/
def flatListsSpec : ChangeSpec := { name := "flatLists", fn := fun _ => fun
  | [d1, d2] => { results := [.lit (.bool true)], args := [d1, d2] }
  | _ => none }
def flatListsRow : OpenClaim := { program := "ytlpklpkalcgeaaa", sum := "d2b195ce9f4fcd58bdb6c0fc265726133b7540f17305d15df5889e483e7d5266", func := "sash/sashlaw07.FlatLists", spec := "flatLists", unfollowed := true, recurses := true, loops := true, apart := false }
def FlatListsSaid : Prop := flatListsRow.holds Try.pinned (OpenSpec.ofChange flatListsSpec)

/-- ITS FALSE NEIGHBOUR: 'it returns false'. Refute it at one input. -/
def flatListsWrong : ChangeSpec := { name := "flatLists", fn := fun _ => fun
  | [d1, d2] => { results := [.lit (.bool false)], args := [d1, d2] }
  | _ => none }
def FlatListsWrongFalsely : Prop := flatListsRow.holds Try.pinned (OpenSpec.ofChange flatListsWrong)

/-- 'sashlaw07.FlatNames': WHATEVER THE INPUT: true; the input reads as it did. -/
def flatNamesSpec : ChangeSpec := { name := "flatNames", fn := fun _ => fun
  | [d1, d2] => { results := [.lit (.bool true)], args := [d1, d2] }
  | _ => none }
def flatNamesRow : OpenClaim := { program := "ytlpklpkalcgeaaa", sum := "d2b195ce9f4fcd58bdb6c0fc265726133b7540f17305d15df5889e483e7d5266", func := "sash/sashlaw07.FlatNames", spec := "flatNames", unfollowed := true, recurses := true, loops := true, apart := false }
def FlatNamesSaid : Prop := flatNamesRow.holds Try.pinned (OpenSpec.ofChange flatNamesSpec)

/-- ITS FALSE NEIGHBOUR: 'it returns false'. Refute it at one input. -/
def flatNamesWrong : ChangeSpec := { name := "flatNames", fn := fun _ => fun
  | [d1, d2] => { results := [.lit (.bool false)], args := [d1, d2] }
  | _ => none }
def FlatNamesWrongFalsely : Prop := flatNamesRow.holds Try.pinned (OpenSpec.ofChange flatNamesWrong)

/-- 'sashlaw07.FlatNexts': WHATEVER THE INPUT: true; the input reads as it did. -/
def flatNextsSpec : ChangeSpec := { name := "flatNexts", fn := fun _ => fun
  | [d1, d2, d3] => { results := [.lit (.bool true)], args := [d1, d2, d3] }
  | _ => none }
def flatNextsRow : OpenClaim := { program := "ytlpklpkalcgeaaa", sum := "d2b195ce9f4fcd58bdb6c0fc265726133b7540f17305d15df5889e483e7d5266", func := "sash/sashlaw07.FlatNexts", spec := "flatNexts", unfollowed := true, recurses := true, loops := true, apart := false }
def FlatNextsSaid : Prop := flatNextsRow.holds Try.pinned (OpenSpec.ofChange flatNextsSpec)

/-- ITS FALSE NEIGHBOUR: 'it returns false'. Refute it at one input. -/
def flatNextsWrong : ChangeSpec := { name := "flatNexts", fn := fun _ => fun
  | [d1, d2, d3] => { results := [.lit (.bool false)], args := [d1, d2, d3] }
  | _ => none }
def FlatNextsWrongFalsely : Prop := flatNextsRow.holds Try.pinned (OpenSpec.ofChange flatNextsWrong)

/-- 'sashlaw07.FlatChanges': WHATEVER THE INPUT: true; the input reads as it did. -/
def flatChangesSpec : ChangeSpec := { name := "flatChanges", fn := fun _ => fun
  | [d1, d2] => { results := [.lit (.bool true)], args := [d1, d2] }
  | _ => none }
def flatChangesRow : OpenClaim := { program := "ytlpklpkalcgeaaa", sum := "d2b195ce9f4fcd58bdb6c0fc265726133b7540f17305d15df5889e483e7d5266", func := "sash/sashlaw07.FlatChanges", spec := "flatChanges", unfollowed := true, recurses := true, apart := false }
def FlatChangesSaid : Prop := flatChangesRow.holds Try.pinned (OpenSpec.ofChange flatChangesSpec)

/-- ITS FALSE NEIGHBOUR: 'it returns false'. Refute it at one input. -/
def flatChangesWrong : ChangeSpec := { name := "flatChanges", fn := fun _ => fun
  | [d1, d2] => { results := [.lit (.bool false)], args := [d1, d2] }
  | _ => none }
def FlatChangesWrongFalsely : Prop := flatChangesRow.holds Try.pinned (OpenSpec.ofChange flatChangesWrong)

/-- 'sashlaw07.FlatStill': WHATEVER THE INPUT: true; the input reads as it did. -/
def flatStillSpec : ChangeSpec := { name := "flatStill", fn := fun _ => fun
  | [d] => { results := [.lit (.bool true)], args := [d] }
  | _ => none }
def flatStillRow : OpenClaim := { program := "ytlpklpkalcgeaaa", sum := "d2b195ce9f4fcd58bdb6c0fc265726133b7540f17305d15df5889e483e7d5266", func := "sash/sashlaw07.FlatStill", spec := "flatStill", unfollowed := true, recurses := true, loops := true, apart := false }
def FlatStillSaid : Prop := flatStillRow.holds Try.pinned (OpenSpec.ofChange flatStillSpec)

/-- ITS FALSE NEIGHBOUR: 'it returns false'. Refute it at one input. -/
def flatStillWrong : ChangeSpec := { name := "flatStill", fn := fun _ => fun
  | [d] => { results := [.lit (.bool false)], args := [d] }
  | _ => none }
def FlatStillWrongFalsely : Prop := flatStillRow.holds Try.pinned (OpenSpec.ofChange flatStillWrong)

/- THE SECOND FORM. 'bulk': how many values and letters a reading holds, each counted each time it is reached (what is shared counts as often as it is met; a slice's spare places count too). A statement '..UptoSaid' is the law's where the arguments, and the package variables that the reading takes, are together of bulk at most 1048576: NARROWER than '..Said'. Prove '..Said' where nothing that the law and all that it calls make is longer than what came in: it says more and counts as full. Else prove '..UptoSaid'. A law counts once. -/
mutual
def uptoBulk {H : Type} : DataW H → Nat
  | .lit (.string bytes) => bytes.length + 1
  | .lit _ => 1
  | .nil => 1
  | .ptr d => uptoBulk d + 1
  | .slice elems spare => uptoBulkAll elems + uptoBulkAll spare + 1
  | .agg parts => uptoBulkAll parts + 1
  | .iface _ d => uptoBulk d + 1
  | .map entries => uptoBulkEntries entries + 1
  | .held _ => 1
def uptoBulkAll {H : Type} : List (DataW H) → Nat
  | [] => 0
  | d :: r => uptoBulk d + uptoBulkAll r
def uptoBulkEntries {H : Type} : List (Lit × DataW H) → Nat
  | [] => 0
  | x :: r => uptoBulkEntry x + uptoBulkEntries r
def uptoBulkEntry {H : Type} : Lit × DataW H → Nat
  | (.string bytes, d) => bytes.length + uptoBulk d + 1
  | (_, d) => uptoBulk d + 1
 end
def uptoSmall : (H : Type) → List (DataW H) → Bool := fun _ ds => decide (uptoBulkAll ds ≤ 1048576)
def OpenSpec.upto (s : _root_.Go.ChangeSpec) : _root_.Go.OpenSpec := { _root_.Go.OpenSpec.ofChange s with cond := some uptoSmall }

/-- 'sashlaw07.FlatLists', WHERE WHAT IT READS IS OF BULK AT MOST 1048576: true; the input reads as it did. -/
def flatListsUptoRow : OpenClaim := { program := "ytlpklpkalcgeaaa", sum := "d2b195ce9f4fcd58bdb6c0fc265726133b7540f17305d15df5889e483e7d5266", func := "sash/sashlaw07.FlatLists", spec := "flatLists", unfollowed := true, recurses := true, loops := true, apart := false, narrowed := true }
def FlatListsUptoSaid : Prop := flatListsUptoRow.holds Try.pinned (OpenSpec.upto flatListsSpec)

/-- 'sashlaw07.FlatNames', WHERE WHAT IT READS IS OF BULK AT MOST 1048576: true; the input reads as it did. -/
def flatNamesUptoRow : OpenClaim := { program := "ytlpklpkalcgeaaa", sum := "d2b195ce9f4fcd58bdb6c0fc265726133b7540f17305d15df5889e483e7d5266", func := "sash/sashlaw07.FlatNames", spec := "flatNames", unfollowed := true, recurses := true, loops := true, apart := false, narrowed := true }
def FlatNamesUptoSaid : Prop := flatNamesUptoRow.holds Try.pinned (OpenSpec.upto flatNamesSpec)

/-- 'sashlaw07.FlatNexts', WHERE WHAT IT READS IS OF BULK AT MOST 1048576: true; the input reads as it did. -/
def flatNextsUptoRow : OpenClaim := { program := "ytlpklpkalcgeaaa", sum := "d2b195ce9f4fcd58bdb6c0fc265726133b7540f17305d15df5889e483e7d5266", func := "sash/sashlaw07.FlatNexts", spec := "flatNexts", unfollowed := true, recurses := true, loops := true, apart := false, narrowed := true }
def FlatNextsUptoSaid : Prop := flatNextsUptoRow.holds Try.pinned (OpenSpec.upto flatNextsSpec)

/-- 'sashlaw07.FlatChanges', WHERE WHAT IT READS IS OF BULK AT MOST 1048576: true; the input reads as it did. -/
def flatChangesUptoRow : OpenClaim := { program := "ytlpklpkalcgeaaa", sum := "d2b195ce9f4fcd58bdb6c0fc265726133b7540f17305d15df5889e483e7d5266", func := "sash/sashlaw07.FlatChanges", spec := "flatChanges", unfollowed := true, recurses := true, apart := false, narrowed := true }
def FlatChangesUptoSaid : Prop := flatChangesUptoRow.holds Try.pinned (OpenSpec.upto flatChangesSpec)

/-- 'sashlaw07.FlatStill', WHERE WHAT IT READS IS OF BULK AT MOST 1048576: true; the input reads as it did. -/
def flatStillUptoRow : OpenClaim := { program := "ytlpklpkalcgeaaa", sum := "d2b195ce9f4fcd58bdb6c0fc265726133b7540f17305d15df5889e483e7d5266", func := "sash/sashlaw07.FlatStill", spec := "flatStill", unfollowed := true, recurses := true, loops := true, apart := false, narrowed := true }
def FlatStillUptoSaid : Prop := flatStillUptoRow.holds Try.pinned (OpenSpec.upto flatStillSpec)

end Rows
end Go.Proofs.Ytlpklpkalcgeaaa
