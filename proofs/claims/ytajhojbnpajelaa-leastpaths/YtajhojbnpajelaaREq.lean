/- Are two rectangles the same? -/
import Derived.Test.YtajhojbnpajelaaOne
import Derived.Laws.StructEq
namespace Go.Proofs.Ytajhojbnpajelaa
open Go.RowKit

theorem eq_guard : Try.prog.eqGuardType Try.prog.depth 23 = false := by kernel_rfl
theorem r_ext (r q : R) : decide (r = q) = (decide (r.x = q.x) && decide (r.y = q.y) && decide (r.w = q.w) && decide (r.h = q.h)) := by
  cases r; cases q; simp [Bool.and_assoc]
theorem eq_run (r q : R) (w : World) : (Op.equalIn 10000 23 (val r) (val q)).run Try.prog w = .ok (decide (r = q)) w := by
  have u3 := Try.underlying3
  have a3 := Try.isAgg3
  have z3 := Try.sizeOf3
  have hS : Try.prog.underlying 23 = some (.struct (Try.prog.fieldsOf 23)) := by kernel_rfl
  have hp : Try.prog.stoodInHeld 23 = false := by kernel_rfl
  rw [show (10000 : Nat) = 9999 + 1 from rfl, run_equalIn_agg w 9999 23 _ _ hS hp]
  simp only [Program.fieldsOf, Try.underlying23]
  rw [r_ext]
  rcases Decidable.em (r.x = q.x) with h1 | h1 <;> rcases Decidable.em (r.y = q.y) with h2 | h2 <;> rcases Decidable.em (r.w = q.w) with h3 | h3 <;> rcases Decidable.em (r.h = q.h) with h4 | h4
  all_goals
    have d1 : (r.x == q.x) = decide (r.x = q.x) := by rw [Bool.eq_iff_iff]; simp
    have d2 : (r.y == q.y) = decide (r.y = q.y) := by rw [Bool.eq_iff_iff]; simp
    have d3 : (r.w == q.w) = decide (r.w = q.w) := by rw [Bool.eq_iff_iff]; simp
    have d4 : (r.h == q.h) = decide (r.h = q.h) := by rw [Bool.eq_iff_iff]; simp
    simp only [h1, h2, h3, h4, decide_true, decide_false] at d1 d2 d3 d4 ⊢
    go_simp
    try simp [h1, h2, h3, h4]
end Go.Proofs.Ytajhojbnpajelaa
