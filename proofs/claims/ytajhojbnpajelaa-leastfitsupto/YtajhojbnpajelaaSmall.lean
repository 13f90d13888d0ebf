/- Rectangles: the calls on one or two of them. -/
import Derived.Test.YtajhojbnpajelaaRect
namespace Go.Proofs.Ytajhojbnpajelaa
open Go.RowKit

theorem may1_any (r : R) (w : World) (hr : r.fits) :
    Calls Try.prog 60 #[val r] w fun e w' => e = .returned (.bool (mayB r)) ∧ Below w.heap.size w w' := by
  have HX := Lib.hid hr.1
  have HY := Lib.hid hr.2.1
  clear hr
  cases h1 : extB r.x r.w with
  | false =>
    go_enter Try.func60, Try.ntmps60
    go_wp2_with (go_at_call 61; refine (extent_any _ _ _ HX.out).mono ?_; rw [h1]; rintro e w' ⟨rfl, rfl⟩)
    go_ret
    exact ⟨by rw [mayB, h1]; rfl, (Below.refl _ _).alloc (Nat.le_refl _) _⟩
  | true =>
    cases h2 : extB r.y r.h with
    | false =>
      go_enter Try.func60, Try.ntmps60
      go_wp2_with fail
      refine (extent_any r.x r.w _ HX.out).mono ?_
      rw [h1]; rintro e w' ⟨rfl, rfl⟩
      go_wp2_with fail
      refine (extent_any r.y r.h _ HY.out).mono ?_
      rw [h2]; rintro e w' ⟨rfl, rfl⟩
      go_wp2
      go_ret
      exact ⟨by rw [mayB, h1, h2]; rfl, (Below.refl _ _).alloc (Nat.le_refl _) _⟩
    | true =>
      go_enter Try.func60, Try.ntmps60
      go_wp2_with fail
      refine (extent_any r.x r.w _ HX.out).mono ?_
      rw [h1]; rintro e w' ⟨rfl, rfl⟩
      go_wp2_with fail
      refine (extent_any r.y r.h _ HY.out).mono ?_
      rw [h2]; rintro e w' ⟨rfl, rfl⟩
      go_wp2
      go_ret
      exact ⟨by rw [mayB, h1, h2]; rfl, (Below.refl _ _).alloc (Nat.le_refl _) _⟩

theorem mayB_iff (r : R) : mayB r = true ↔ (0 ≤ r.x ∧ 1 ≤ r.w ∧ r.x + r.w ≤ 10000) ∧ 0 ≤ r.y ∧ 1 ≤ r.h ∧ r.y + r.h ≤ 10000 := by simp [mayB, extB]
theorem mayB_no {r : R} (h : ¬((0 ≤ r.x ∧ 1 ≤ r.w ∧ r.x + r.w ≤ 10000) ∧ 0 ≤ r.y ∧ 1 ≤ r.h ∧ r.y + r.h ≤ 10000)) : mayB r = false := by
  cases e : mayB r with
  | false => rfl
  | true => exact absurd ((mayB_iff r).1 e) h

theorem rmay_any (r : R) (w : World) (hr : r.fits) :
    Calls Try.prog 36 #[val r] w fun e w' => e = .returned (.bool (mayB r)) ∧ Below w.heap.size w w' := by
  obtain ⟨⟨x1, x2⟩, ⟨y1, y2⟩, ⟨w1, w2⟩, ⟨h1, h2⟩⟩ := hr
  obtain ⟨x, y, wd, ht⟩ := r
  have B := Lib.hid ((Below.refl w.heap.size w).alloc (Nat.le_refl _) (.cells #[.int .i64 x, .int .i64 y, .int .i64 wd, .int .i64 ht] 23))
  by_cases a1 : x < 0
  · have d1 : decide (x < 0) = true := decide_eq_true a1
    go_enter Try.func36, Try.ntmps36
    go_wp2
    go_ret
    exact ⟨by rw [mayB_no (by simp; omega)]; rfl, B.out⟩
  have d1 : decide (x < 0) = false := decide_eq_false a1
  by_cases a2 : 10000 < x
  · have d2 : decide (10000 < x) = true := decide_eq_true a2
    go_enter Try.func36, Try.ntmps36
    go_wp2
    go_ret
    exact ⟨by rw [mayB_no (by simp; omega)]; rfl, B.out⟩
  have d2 : decide (10000 < x) = false := decide_eq_false a2
  by_cases a3 : y < 0
  · have d3 : decide (y < 0) = true := decide_eq_true a3
    go_enter Try.func36, Try.ntmps36
    go_wp2
    go_ret
    exact ⟨by rw [mayB_no (by simp; omega)]; rfl, B.out⟩
  have d3 : decide (y < 0) = false := decide_eq_false a3
  by_cases a4 : 10000 < y
  · have d4 : decide (10000 < y) = true := decide_eq_true a4
    go_enter Try.func36, Try.ntmps36
    go_wp2
    go_ret
    exact ⟨by rw [mayB_no (by simp; omega)]; rfl, B.out⟩
  have d4 : decide (10000 < y) = false := decide_eq_false a4
  by_cases b1 : 0 < wd
  case neg =>
    have e1 : decide (0 < wd) = false := decide_eq_false b1
    go_enter Try.func36, Try.ntmps36
    go_wp2
    go_ret
    exact ⟨by rw [mayB_no (by simp; omega)]; rfl, B.out⟩
  have e1 : decide (0 < wd) = true := decide_eq_true b1
  by_cases b2 : wd ≤ 10000
  case neg =>
    have e2 : decide (wd ≤ 10000) = false := decide_eq_false b2
    go_enter Try.func36, Try.ntmps36
    go_wp2
    go_ret
    exact ⟨by rw [mayB_no (by simp; omega)]; rfl, B.out⟩
  have e2 : decide (wd ≤ 10000) = true := decide_eq_true b2
  by_cases b3 : 0 < ht
  case neg =>
    have e3 : decide (0 < ht) = false := decide_eq_false b3
    go_enter Try.func36, Try.ntmps36
    go_wp2
    go_ret
    exact ⟨by rw [mayB_no (by simp; omega)]; rfl, B.out⟩
  have e3 : decide (0 < ht) = true := decide_eq_true b3
  by_cases b4 : ht ≤ 10000
  case neg =>
    have e4 : decide (ht ≤ 10000) = false := decide_eq_false b4
    go_enter Try.func36, Try.ntmps36
    go_wp2
    go_ret
    exact ⟨by rw [mayB_no (by simp; omega)]; rfl, B.out⟩
  have e4 : decide (ht ≤ 10000) = true := decide_eq_true b4
  have sx : IntKind.i64.wrap (x + wd) = x + wd := wrap_id (by omega)
  have sy : IntKind.i64.wrap (y + ht) = y + ht := wrap_id (by omega)
  by_cases c1 : x + wd ≤ 10000
  case neg =>
    have f1 : decide (x + wd ≤ 10000) = false := decide_eq_false c1
    go_enter Try.func36, Try.ntmps36
    go_wp2
    go_ret
    exact ⟨by rw [mayB_no (by simp; omega)]; rfl, B.out⟩
  have f1 : decide (x + wd ≤ 10000) = true := decide_eq_true c1
  by_cases c2 : y + ht ≤ 10000
  case neg =>
    have f2 : decide (y + ht ≤ 10000) = false := decide_eq_false c2
    go_enter Try.func36, Try.ntmps36
    go_wp2
    go_ret
    exact ⟨by rw [mayB_no (by simp; omega)]; rfl, B.out⟩
  have f2 : decide (y + ht ≤ 10000) = true := decide_eq_true c2
  go_enter Try.func36, Try.ntmps36
  go_wp2
  go_ret
  exact ⟨by rw [(mayB_iff _).2 (by simp; omega)]; rfl, B.out⟩
end Go.Proofs.Ytajhojbnpajelaa
