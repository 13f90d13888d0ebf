/- The document's own answers: has a rectangle a cell, is it inside another one? -/
import Derived.Test.YtibjpkicchdomaaHas
namespace Go.Proofs.Ytibjpkicchdomaa
open Go.RowKit

theorem last_cell (a b c : Int) : decide (a ≤ b + c - 1) = decide (a < b + c) := by
  rw [Bool.eq_iff_iff, decide_eq_true_iff, decide_eq_true_iff]; omega

set_option maxRecDepth 100000 in
set_option maxHeartbeats 1600000 in
theorem rhas_any (r : R) (x y : Int) (w : World) (hr : r.fits) :
    Calls Try.prog 25 #[val r, .int .i64 x, .int .i64 y] w fun e w' => e = .returned (.bool (hasB r x y)) ∧ Below w.heap.size w w' := by
  have B1 : Hid (Below w.heap.size w (w.alloc (box r))) := (Below.refl _ _).alloc (Nat.le_refl _) _
  have H := Lib.hid (rmay_any r (w.alloc (box r)) hr)
  have HA : Hid (RAt (w.alloc (box r)) w.heap.size 0 r) := rat_new w r
  rcases bool_cases (mayB r) with hm | hm
  · have hb := (mayB_iff r).1 hm
    have sx : IntKind.i64.wrap (r.x + r.w) = r.x + r.w := wrap_id (by omega)
    have sy : IntKind.i64.wrap (r.y + r.h) = r.y + r.h := wrap_id (by omega)
    have sx1 : IntKind.i64.wrap (r.x + r.w - 1) = r.x + r.w - 1 := wrap_id (by omega)
    have sy1 : IntKind.i64.wrap (r.y + r.h - 1) = r.y + r.h - 1 := wrap_id (by omega)
    clear hb
    rcases bool_cases (decide (r.x ≤ x)) with d1 | d1 <;> rcases bool_cases (decide (x ≤ r.x + r.w - 1)) with d2 | d2 <;> rcases bool_cases (decide (r.y ≤ y)) with d3 | d3 <;> rcases bool_cases (decide (y ≤ r.y + r.h - 1)) with d4 | d4
    all_goals
      have hv : Hid (hasB r x y = (mayB r && decide (r.x ≤ x) && decide (x ≤ r.x + r.w - 1) && decide (r.y ≤ y) && decide (y ≤ r.y + r.h - 1))) := (by rw [last_cell, last_cell]; rfl : hasB r x y = _)
      rw [hm, d1, d2, d3, d4] at hv
      rw [hm] at H
      go_enter Try.func25, Try.ntmps25
      go_wp2_with fail
      refine H.out.mono ?_
      rintro e w2 ⟨rfl, hb2⟩
      have B2 := Lib.hid (B1.out.trans (hb2.mono B1.out.size))
      obtain ⟨c0, c1, c2, c3⟩ := HA.out.up hb2
      clear hb2
      go_wp2
      go_ret
      exact ⟨by rw [hv.out]; rfl, B2.out⟩
  · have hv : Hid (hasB r x y = false) := (by rw [hasB, hm]; rfl : hasB r x y = false)
    rw [hm] at H
    go_enter Try.func25, Try.ntmps25
    go_wp2_with fail
    refine H.out.mono ?_
    rintro e w2 ⟨rfl, hb2⟩
    have B2 := Lib.hid (B1.out.trans (hb2.mono B1.out.size))
    clear hb2
    go_wp2
    go_ret
    exact ⟨by rw [hv.out]; rfl, B2.out⟩
end Go.Proofs.Ytibjpkicchdomaa
