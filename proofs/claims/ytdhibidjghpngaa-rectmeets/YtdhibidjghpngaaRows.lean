/-
  No cell of these rows narrows 'for every input' (looked for: loops, veiled, ifaces, maps, wideKeys, modest, calm, conditions, laid).
  DERIVED. THE GIVEN ROWS OF THIS SEAT. 4 by the template 'for every input the law returns true; each argument reads behind the call as it read before'; 0 by the template 'total and deterministic' (their statements: YtdhibidjghpngaaTotals.lean).
  GIVEN WITH THE SEED: the statements are not yours to turn. If you find one false, say at which input.
  Laid BY PROGRAM, IN A SANDBOX (cutbox-rows.mjs): the forced cells as the released guide's own fill.sh prints them over the translation 5abc4e2e408de841… (all of the seat's roots in one cut). By AI agents, Wed Nov 11 2026. No macro, syntax, notation, axiom, sorry.
-/
import Derived.Test.YtdhibidjghpngaaChecked
import GoSem.Claim
import GoSem.ClaimJoined
import GoSem.ClaimMapViews
import Derived.JoinedTies
import Derived.KernelRfl
namespace Go.Proofs.Ytdhibidjghpngaa
/- THE CELL 'sum', in the pinned program and in every row, IS THE sha256 OF THE DUMP (.gsa) THAT YtdhibidjghpngaaProg.lean LOADS. Nothing in Lean hashes anything: it is a label: what it is worth is what the hold of that sum in a sandbox is worth. -/
noncomputable def Try.pinned : Pinned := { name := "ytdhibidjghpngaa", sum := "5abc4e2e408de841c911c4731eff2d34da379efd3f9f83bb74b354727c7e626c", checked := Try.checked }
namespace Rows
def none {H : Type} : Left H := { results := [], args := [] }

/-- 'sashlaw04.RectMays': WHATEVER THE INPUT: true; the input reads as it did. -/
def rectMaysSpec : ChangeSpec := { name := "rectMays", fn := fun _ => fun
  | [d] => { results := [.lit (.bool true)], args := [d] }
  | _ => none }
def rectMaysRow : OpenClaim := { program := "ytdhibidjghpngaa", sum := "5abc4e2e408de841c911c4731eff2d34da379efd3f9f83bb74b354727c7e626c", func := "sash/sashlaw04.RectMays", spec := "rectMays", unfollowed := true, recurses := true, apart := false }
def RectMaysSaid : Prop := rectMaysRow.holds Try.pinned (OpenSpec.ofChange rectMaysSpec)

/-- ITS FALSE NEIGHBOUR: 'it returns false'. Refute it at one input. -/
def rectMaysWrong : ChangeSpec := { name := "rectMays", fn := fun _ => fun
  | [d] => { results := [.lit (.bool false)], args := [d] }
  | _ => none }
def RectMaysWrongFalsely : Prop := rectMaysRow.holds Try.pinned (OpenSpec.ofChange rectMaysWrong)

/-- 'sashlaw04.RectInside': WHATEVER THE INPUT: true; the input reads as it did. -/
def rectInsideSpec : ChangeSpec := { name := "rectInside", fn := fun _ => fun
  | [d1, d2, d3, d4] => { results := [.lit (.bool true)], args := [d1, d2, d3, d4] }
  | _ => none }
def rectInsideRow : OpenClaim := { program := "ytdhibidjghpngaa", sum := "5abc4e2e408de841c911c4731eff2d34da379efd3f9f83bb74b354727c7e626c", func := "sash/sashlaw04.RectInside", spec := "rectInside", unfollowed := true, recurses := true, apart := false }
def RectInsideSaid : Prop := rectInsideRow.holds Try.pinned (OpenSpec.ofChange rectInsideSpec)

/-- ITS FALSE NEIGHBOUR: 'it returns false'. Refute it at one input. -/
def rectInsideWrong : ChangeSpec := { name := "rectInside", fn := fun _ => fun
  | [d1, d2, d3, d4] => { results := [.lit (.bool false)], args := [d1, d2, d3, d4] }
  | _ => none }
def RectInsideWrongFalsely : Prop := rectInsideRow.holds Try.pinned (OpenSpec.ofChange rectInsideWrong)

/-- 'sashlaw04.RectCuts': WHATEVER THE INPUT: true; the input reads as it did. -/
def rectCutsSpec : ChangeSpec := { name := "rectCuts", fn := fun _ => fun
  | [d1, d2, d3] => { results := [.lit (.bool true)], args := [d1, d2, d3] }
  | _ => none }
def rectCutsRow : OpenClaim := { program := "ytdhibidjghpngaa", sum := "5abc4e2e408de841c911c4731eff2d34da379efd3f9f83bb74b354727c7e626c", func := "sash/sashlaw04.RectCuts", spec := "rectCuts", unfollowed := true, recurses := true, apart := false }
def RectCutsSaid : Prop := rectCutsRow.holds Try.pinned (OpenSpec.ofChange rectCutsSpec)

/-- ITS FALSE NEIGHBOUR: 'it returns false'. Refute it at one input. -/
def rectCutsWrong : ChangeSpec := { name := "rectCuts", fn := fun _ => fun
  | [d1, d2, d3] => { results := [.lit (.bool false)], args := [d1, d2, d3] }
  | _ => none }
def RectCutsWrongFalsely : Prop := rectCutsRow.holds Try.pinned (OpenSpec.ofChange rectCutsWrong)

/-- 'sashlaw04.RectMeets': WHATEVER THE INPUT: true; the input reads as it did. -/
def rectMeetsSpec : ChangeSpec := { name := "rectMeets", fn := fun _ => fun
  | [d1, d2] => { results := [.lit (.bool true)], args := [d1, d2] }
  | _ => none }
def rectMeetsRow : OpenClaim := { program := "ytdhibidjghpngaa", sum := "5abc4e2e408de841c911c4731eff2d34da379efd3f9f83bb74b354727c7e626c", func := "sash/sashlaw04.RectMeets", spec := "rectMeets", unfollowed := true, recurses := true, apart := false }
def RectMeetsSaid : Prop := rectMeetsRow.holds Try.pinned (OpenSpec.ofChange rectMeetsSpec)

/-- ITS FALSE NEIGHBOUR: 'it returns false'. Refute it at one input. -/
def rectMeetsWrong : ChangeSpec := { name := "rectMeets", fn := fun _ => fun
  | [d1, d2] => { results := [.lit (.bool false)], args := [d1, d2] }
  | _ => none }
def RectMeetsWrongFalsely : Prop := rectMeetsRow.holds Try.pinned (OpenSpec.ofChange rectMeetsWrong)

/- THE SECOND FORM. 'bulk': how many values and letters a reading holds, each counted each time it is reached (what is shared counts as often as it is met; a slice's spare places count too). A statement '..UptoSaid' is the law's where the arguments, and the package variables that the reading takes, are together of bulk at most 1048576: NARROWER than '..Said'. Prove '..Said' where nothing that the law and all that it calls make is longer than what came in: it says more and counts as full. Else prove '..UptoSaid'. A law counts once. -/
mutual
def uptoBulk {H : Type} : DataW H → Nat
  | .lit (.string bytes) => bytes.length + 1
  | .lit _ => 1
  | .nil => 1
  | .ptr d => uptoBulk d + 1
  | .slice elems spare => uptoBulkAll elems + uptoBulkAll spare + 1
  | .agg parts => uptoBulkAll parts + 1
  | .iface _ d => uptoBulk d + 1
  | .map entries => uptoBulkEntries entries + 1
  | .held _ => 1
def uptoBulkAll {H : Type} : List (DataW H) → Nat
  | [] => 0
  | d :: r => uptoBulk d + uptoBulkAll r
def uptoBulkEntries {H : Type} : List (Lit × DataW H) → Nat
  | [] => 0
  | x :: r => uptoBulkEntry x + uptoBulkEntries r
def uptoBulkEntry {H : Type} : Lit × DataW H → Nat
  | (.string bytes, d) => bytes.length + uptoBulk d + 1
  | (_, d) => uptoBulk d + 1
 end
def uptoSmall : (H : Type) → List (DataW H) → Bool := fun _ ds => decide (uptoBulkAll ds ≤ 1048576)
def OpenSpec.upto (s : _root_.Go.ChangeSpec) : _root_.Go.OpenSpec := { _root_.Go.OpenSpec.ofChange s with cond := some uptoSmall }

/-- 'sashlaw04.RectMays', WHERE WHAT IT READS IS OF BULK AT MOST 1048576: true; the input reads as it did. -/
def rectMaysUptoRow : OpenClaim := { program := "ytdhibidjghpngaa", sum := "5abc4e2e408de841c911c4731eff2d34da379efd3f9f83bb74b354727c7e626c", func := "sash/sashlaw04.RectMays", spec := "rectMays", unfollowed := true, recurses := true, apart := false, narrowed := true }
def RectMaysUptoSaid : Prop := rectMaysUptoRow.holds Try.pinned (OpenSpec.upto rectMaysSpec)

/-- 'sashlaw04.RectInside', WHERE WHAT IT READS IS OF BULK AT MOST 1048576: true; the input reads as it did. -/
def rectInsideUptoRow : OpenClaim := { program := "ytdhibidjghpngaa", sum := "5abc4e2e408de841c911c4731eff2d34da379efd3f9f83bb74b354727c7e626c", func := "sash/sashlaw04.RectInside", spec := "rectInside", unfollowed := true, recurses := true, apart := false, narrowed := true }
def RectInsideUptoSaid : Prop := rectInsideUptoRow.holds Try.pinned (OpenSpec.upto rectInsideSpec)

/-- 'sashlaw04.RectCuts', WHERE WHAT IT READS IS OF BULK AT MOST 1048576: true; the input reads as it did. -/
def rectCutsUptoRow : OpenClaim := { program := "ytdhibidjghpngaa", sum := "5abc4e2e408de841c911c4731eff2d34da379efd3f9f83bb74b354727c7e626c", func := "sash/sashlaw04.RectCuts", spec := "rectCuts", unfollowed := true, recurses := true, apart := false, narrowed := true }
def RectCutsUptoSaid : Prop := rectCutsUptoRow.holds Try.pinned (OpenSpec.upto rectCutsSpec)

/-- 'sashlaw04.RectMeets', WHERE WHAT IT READS IS OF BULK AT MOST 1048576: true; the input reads as it did. -/
def rectMeetsUptoRow : OpenClaim := { program := "ytdhibidjghpngaa", sum := "5abc4e2e408de841c911c4731eff2d34da379efd3f9f83bb74b354727c7e626c", func := "sash/sashlaw04.RectMeets", spec := "rectMeets", unfollowed := true, recurses := true, apart := false, narrowed := true }
def RectMeetsUptoSaid : Prop := rectMeetsUptoRow.holds Try.pinned (OpenSpec.upto rectMeetsSpec)

end Rows
end Go.Proofs.Ytdhibidjghpngaa
