/- Rectangles: what they are in words, and the small calls on them. -/
import Derived.Test.YtajhojbnpajelaaRet
import Derived.Deep.LoopGhost
import Derived.Shelf.SlicesQ.Load
namespace Go.Proofs.Ytajhojbnpajelaa
open Go.RowKit

structure R where
  x : Int
  y : Int
  w : Int
  h : Int
deriving DecidableEq, Inhabited

def enc (r : R) : List Value := [.int .i64 r.x, .int .i64 r.y, .int .i64 r.w, .int .i64 r.h]
abbrev val (r : R) : Value := .agg #[.int .i64 r.x, .int .i64 r.y, .int .i64 r.w, .int .i64 r.h]
def fits (n : Int) : Prop := -9223372036854775808 ≤ n ∧ n ≤ 9223372036854775807
def R.fits (r : R) : Prop := Ytajhojbnpajelaa.fits r.x ∧ Ytajhojbnpajelaa.fits r.y ∧ Ytajhojbnpajelaa.fits r.w ∧ Ytajhojbnpajelaa.fits r.h
def extB (f s : Int) : Bool := decide (0 ≤ f ∧ 1 ≤ s ∧ f + s ≤ 10000)
def mayB (r : R) : Bool := extB r.x r.w && extB r.y r.h

theorem wrap_id {n : Int} (h : -9223372036854775808 ≤ n ∧ n ≤ 9223372036854775807) : IntKind.i64.wrap n = n := by rw [IntKind.wrap_i64]; omega

theorem extent_any (f s : Int) (w : World) (hf : fits f) :
    Calls Try.prog 61 #[.int .i64 f, .int .i64 s] w fun e w' => e = .returned (.bool (extB f s)) ∧ w = w' := by
  by_cases h0 : 0 ≤ f
  · by_cases h1 : 1 ≤ s
    · have hw : IntKind.i64.wrap (10000 - f) = 10000 - f := wrap_id (by have := hf.2; omega)
      by_cases h2 : s ≤ 10000 - f
      · go_enter Try.func61, Try.ntmps61
        go_wp2
        go_ret
        exact ⟨by rw [extB, decide_eq_true (by omega)]; simp, rfl⟩
      · have d2 : decide (s ≤ 10000 - f) = false := decide_eq_false h2
        go_enter Try.func61, Try.ntmps61
        go_wp2
        go_ret
        exact ⟨by rw [extB, decide_eq_false (by omega)]; simp, rfl⟩
    · have d1 : decide (1 ≤ s) = false := decide_eq_false h1
      go_enter Try.func61, Try.ntmps61
      go_wp2
      go_ret
      exact ⟨by rw [extB, decide_eq_false (by omega)]; simp, rfl⟩
  · have d0 : decide (0 ≤ f) = false := decide_eq_false h0
    go_enter Try.func61, Try.ntmps61
    go_wp2
    go_ret
    exact ⟨by rw [extB, decide_eq_false (by omega)]; simp, rfl⟩
end Go.Proofs.Ytajhojbnpajelaa
