/- Rectangles: what they are in words, and the small calls on them. -/
import Derived.Test.YtcmkhppkdbdfdaaRet
import Derived.Deep.LoopGhost
import Derived.Shelf.SlicesQ.Load
namespace Go.Proofs.Ytcmkhppkdbdfdaa
open Go.RowKit

structure R where
  x : Int
  y : Int
  w : Int
  h : Int
deriving DecidableEq, Inhabited

def enc (r : R) : List Value := [.int .i64 r.x, .int .i64 r.y, .int .i64 r.w, .int .i64 r.h]
abbrev val (r : R) : Value := .agg #[.int .i64 r.x, .int .i64 r.y, .int .i64 r.w, .int .i64 r.h]
def fits (n : Int) : Prop := -9223372036854775808 ≤ n ∧ n ≤ 9223372036854775807
def R.fits (r : R) : Prop := Ytcmkhppkdbdfdaa.fits r.x ∧ Ytcmkhppkdbdfdaa.fits r.y ∧ Ytcmkhppkdbdfdaa.fits r.w ∧ Ytcmkhppkdbdfdaa.fits r.h
def extB (f s : Int) : Bool := decide (0 ≤ f ∧ 1 ≤ s ∧ f + s ≤ 10000)
def mayB (r : R) : Bool := extB r.x r.w && extB r.y r.h

theorem wrap_id {n : Int} (h : -9223372036854775808 ≤ n ∧ n ≤ 9223372036854775807) : IntKind.i64.wrap n = n := by rw [IntKind.wrap_i64]; omega
end Go.Proofs.Ytcmkhppkdbdfdaa
