/-
  NARROWER THAN 'FOR EVERY INPUT', by the rows' own cells (each row's printed sentence says how): PushCan: loops · PushFrames: loops · PushOne: loops.
  DERIVED. THE GIVEN ROWS OF THIS SEAT. 3 by the template 'for every input the law returns true; each argument reads behind the call as it read before'; 0 by the template 'total and deterministic' (their statements: YtodcabaihhmhnaaTotals.lean).
  GIVEN WITH THE SEED: the statements are not yours to turn. If you find one false, say at which input.
  Laid BY PROGRAM, IN A SANDBOX (cutbox-rows.mjs): the forced cells as the released guide's own fill.sh prints them over the translation 03c2a855c2612efc… (all of the seat's roots in one cut). By AI agents, Wed Nov 11 2026. No macro, syntax, notation, axiom, sorry.
-/
import Derived.Test.YtodcabaihhmhnaaChecked
import GoSem.Claim
import GoSem.ClaimJoined
import GoSem.ClaimMapViews
import Derived.JoinedTies
import Derived.KernelRfl
namespace Go.Proofs.Ytodcabaihhmhnaa
/- THE CELL 'sum', in the pinned program and in every row, IS THE sha256 OF THE DUMP (.gsa) THAT YtodcabaihhmhnaaProg.lean LOADS. Nothing in Lean hashes anything: it is a label: what it is worth is what the hold of that sum in a sandbox is worth. -/
noncomputable def Try.pinned : Pinned := { name := "ytodcabaihhmhnaa", sum := "03c2a855c2612efca191b6ec96ae1a0797d804ce7ee1aeb4276d52ac021bdab9", checked := Try.checked }
namespace Rows
def none {H : Type} : Left H := { results := [], args := [] }

/-- 'sashlaw14.PushCan': WHATEVER THE INPUT: true; the input reads as it did. -/
def pushCanSpec : ChangeSpec := { name := "pushCan", fn := fun _ => fun
  | [d1, d2, d3] => { results := [.lit (.bool true)], args := [d1, d2, d3] }
  | _ => none }
def pushCanRow : OpenClaim := { program := "ytodcabaihhmhnaa", sum := "03c2a855c2612efca191b6ec96ae1a0797d804ce7ee1aeb4276d52ac021bdab9", func := "sash/sashlaw14.PushCan", spec := "pushCan", unfollowed := true, recurses := true, loops := true, apart := false }
def PushCanSaid : Prop := pushCanRow.holds Try.pinned (OpenSpec.ofChange pushCanSpec)

/-- ITS FALSE NEIGHBOUR: 'it returns false'. Refute it at one input. -/
def pushCanWrong : ChangeSpec := { name := "pushCan", fn := fun _ => fun
  | [d1, d2, d3] => { results := [.lit (.bool false)], args := [d1, d2, d3] }
  | _ => none }
def PushCanWrongFalsely : Prop := pushCanRow.holds Try.pinned (OpenSpec.ofChange pushCanWrong)

/-- 'sashlaw14.PushFrames': WHATEVER THE INPUT: true; the input reads as it did. -/
def pushFramesSpec : ChangeSpec := { name := "pushFrames", fn := fun _ => fun
  | [d1, d2, d3] => { results := [.lit (.bool true)], args := [d1, d2, d3] }
  | _ => none }
def pushFramesRow : OpenClaim := { program := "ytodcabaihhmhnaa", sum := "03c2a855c2612efca191b6ec96ae1a0797d804ce7ee1aeb4276d52ac021bdab9", func := "sash/sashlaw14.PushFrames", spec := "pushFrames", unfollowed := true, recurses := true, loops := true, apart := false }
def PushFramesSaid : Prop := pushFramesRow.holds Try.pinned (OpenSpec.ofChange pushFramesSpec)

/-- ITS FALSE NEIGHBOUR: 'it returns false'. Refute it at one input. -/
def pushFramesWrong : ChangeSpec := { name := "pushFrames", fn := fun _ => fun
  | [d1, d2, d3] => { results := [.lit (.bool false)], args := [d1, d2, d3] }
  | _ => none }
def PushFramesWrongFalsely : Prop := pushFramesRow.holds Try.pinned (OpenSpec.ofChange pushFramesWrong)

/-- 'sashlaw14.PushOne': WHATEVER THE INPUT: true; the input reads as it did. -/
def pushOneSpec : ChangeSpec := { name := "pushOne", fn := fun _ => fun
  | [d1, d2, d3, d4] => { results := [.lit (.bool true)], args := [d1, d2, d3, d4] }
  | _ => none }
def pushOneRow : OpenClaim := { program := "ytodcabaihhmhnaa", sum := "03c2a855c2612efca191b6ec96ae1a0797d804ce7ee1aeb4276d52ac021bdab9", func := "sash/sashlaw14.PushOne", spec := "pushOne", unfollowed := true, recurses := true, loops := true, apart := false }
def PushOneSaid : Prop := pushOneRow.holds Try.pinned (OpenSpec.ofChange pushOneSpec)

/-- ITS FALSE NEIGHBOUR: 'it returns false'. Refute it at one input. -/
def pushOneWrong : ChangeSpec := { name := "pushOne", fn := fun _ => fun
  | [d1, d2, d3, d4] => { results := [.lit (.bool false)], args := [d1, d2, d3, d4] }
  | _ => none }
def PushOneWrongFalsely : Prop := pushOneRow.holds Try.pinned (OpenSpec.ofChange pushOneWrong)

/- THE SECOND FORM. 'bulk': how many values and letters a reading holds, each counted each time it is reached (what is shared counts as often as it is met; a slice's spare places count too). A statement '..UptoSaid' is the law's where the arguments, and the package variables that the reading takes, are together of bulk at most 1048576: NARROWER than '..Said'. Prove '..Said' where nothing that the law and all that it calls make is longer than what came in: it says more and counts as full. Else prove '..UptoSaid'. A law counts once. -/
mutual
def uptoBulk {H : Type} : DataW H → Nat
  | .lit (.string bytes) => bytes.length + 1
  | .lit _ => 1
  | .nil => 1
  | .ptr d => uptoBulk d + 1
  | .slice elems spare => uptoBulkAll elems + uptoBulkAll spare + 1
  | .agg parts => uptoBulkAll parts + 1
  | .iface _ d => uptoBulk d + 1
  | .map entries => uptoBulkEntries entries + 1
  | .held _ => 1
def uptoBulkAll {H : Type} : List (DataW H) → Nat
  | [] => 0
  | d :: r => uptoBulk d + uptoBulkAll r
def uptoBulkEntries {H : Type} : List (Lit × DataW H) → Nat
  | [] => 0
  | x :: r => uptoBulkEntry x + uptoBulkEntries r
def uptoBulkEntry {H : Type} : Lit × DataW H → Nat
  | (.string bytes, d) => bytes.length + uptoBulk d + 1
  | (_, d) => uptoBulk d + 1
 end
def uptoSmall : (H : Type) → List (DataW H) → Bool := fun _ ds => decide (uptoBulkAll ds ≤ 1048576)
def OpenSpec.upto (s : _root_.Go.ChangeSpec) : _root_.Go.OpenSpec := { _root_.Go.OpenSpec.ofChange s with cond := some uptoSmall }

/-- 'sashlaw14.PushCan', WHERE WHAT IT READS IS OF BULK AT MOST 1048576: true; the input reads as it did. -/
def pushCanUptoRow : OpenClaim := { program := "ytodcabaihhmhnaa", sum := "03c2a855c2612efca191b6ec96ae1a0797d804ce7ee1aeb4276d52ac021bdab9", func := "sash/sashlaw14.PushCan", spec := "pushCan", unfollowed := true, recurses := true, loops := true, apart := false, narrowed := true }
def PushCanUptoSaid : Prop := pushCanUptoRow.holds Try.pinned (OpenSpec.upto pushCanSpec)

/-- 'sashlaw14.PushFrames', WHERE WHAT IT READS IS OF BULK AT MOST 1048576: true; the input reads as it did. -/
def pushFramesUptoRow : OpenClaim := { program := "ytodcabaihhmhnaa", sum := "03c2a855c2612efca191b6ec96ae1a0797d804ce7ee1aeb4276d52ac021bdab9", func := "sash/sashlaw14.PushFrames", spec := "pushFrames", unfollowed := true, recurses := true, loops := true, apart := false, narrowed := true }
def PushFramesUptoSaid : Prop := pushFramesUptoRow.holds Try.pinned (OpenSpec.upto pushFramesSpec)

/-- 'sashlaw14.PushOne', WHERE WHAT IT READS IS OF BULK AT MOST 1048576: true; the input reads as it did. -/
def pushOneUptoRow : OpenClaim := { program := "ytodcabaihhmhnaa", sum := "03c2a855c2612efca191b6ec96ae1a0797d804ce7ee1aeb4276d52ac021bdab9", func := "sash/sashlaw14.PushOne", spec := "pushOne", unfollowed := true, recurses := true, loops := true, apart := false, narrowed := true }
def PushOneUptoSaid : Prop := pushOneUptoRow.holds Try.pinned (OpenSpec.upto pushOneSpec)

end Rows
end Go.Proofs.Ytodcabaihhmhnaa
