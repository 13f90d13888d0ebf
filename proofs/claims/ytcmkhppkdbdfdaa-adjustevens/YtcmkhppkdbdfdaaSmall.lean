/- Rectangles: the calls on one or two of them. -/
import Derived.Test.YtcmkhppkdbdfdaaRect
namespace Go.Proofs.Ytcmkhppkdbdfdaa
open Go.RowKit

theorem mayB_iff (r : R) : mayB r = true ↔ (0 ≤ r.x ∧ 1 ≤ r.w ∧ r.x + r.w ≤ 10000) ∧ 0 ≤ r.y ∧ 1 ≤ r.h ∧ r.y + r.h ≤ 10000 := by simp [mayB, extB]
theorem mayB_no {r : R} (h : ¬((0 ≤ r.x ∧ 1 ≤ r.w ∧ r.x + r.w ≤ 10000) ∧ 0 ≤ r.y ∧ 1 ≤ r.h ∧ r.y + r.h ≤ 10000)) : mayB r = false := by
  cases e : mayB r with
  | false => rfl
  | true => exact absurd ((mayB_iff r).1 e) h

end Go.Proofs.Ytcmkhppkdbdfdaa
