/- The document's own answers: is a rectangle inside another one? -/
import Derived.Test.YtibjpkicchdomaaHas
namespace Go.Proofs.Ytibjpkicchdomaa
open Go.RowKit

def insB (q r : R) : Bool := mayB q && mayB r && decide (q.x ≤ r.x) && decide (q.y ≤ r.y) && decide (r.x + r.w ≤ q.x + q.w) && decide (r.y + r.h ≤ q.y + q.h)

set_option maxRecDepth 100000 in
set_option maxHeartbeats 1600000 in
theorem rins_any (q r : R) (w : World) (hq : q.fits) (hr : r.fits) :
    Calls Try.prog 20 #[val q, val r] w fun e w' => e = .returned (.bool (insB q r)) ∧ Below w.heap.size w w' := by
  have B0 : Hid (Below (w.alloc (box q)).heap.size (w.alloc (box q)) ((w.alloc (box q)).alloc (box r))) := (Below.refl _ _).alloc (Nat.le_refl _) _
  have B1 : Hid (Below w.heap.size w ((w.alloc (box q)).alloc (box r))) := ((Below.refl _ _).alloc (Nat.le_refl _) _).alloc (by simp) _
  have H := Lib.hid (rmay_any q ((w.alloc (box q)).alloc (box r)) hq)
  have HA : Hid (RAt ((w.alloc (box q)).alloc (box r)) w.heap.size 0 q) := (rat_new w q).up B0.out
  have HC : Hid (RAt ((w.alloc (box q)).alloc (box r)) (w.heap.size + 1) 0 r) := by
    have h := rat_new (w.alloc (box q)) r
    rw [World.size_alloc] at h
    exact h
  have HR := Lib.hid hr
  rcases bool_cases (mayB q) with hm | hm
  case inr =>
    have hv : Hid (insB q r = false) := (by rw [insB, hm]; rfl : insB q r = false)
    rw [hm] at H
    go_enter Try.func20, Try.ntmps20
    go_wp2_with fail
    refine H.out.mono ?_
    rintro e w2 ⟨rfl, hb2⟩
    have B2 := Lib.hid (B1.out.trans (hb2.mono B1.out.size))
    clear hb2
    go_wp2
    go_ret
    exact ⟨by rw [hv.out]; rfl, B2.out⟩
  rcases bool_cases (mayB r) with hn | hn
  case inr =>
    have hv : Hid (insB q r = false) := (by rw [insB, hm, hn]; rfl : insB q r = false)
    rw [hm] at H
    go_enter Try.func20, Try.ntmps20
    go_wp2_with fail
    refine H.out.mono ?_
    rintro e w2 ⟨rfl, hb2⟩
    have B2 := Lib.hid (B1.out.trans (hb2.mono B1.out.size))
    obtain ⟨e0, e1, e2, e3⟩ := HC.out.up hb2
    clear hb2
    go_wp2_with fail
    refine (rmay_any r _ HR.out).mono ?_
    rw [hn]
    rintro e w3 ⟨rfl, hb3⟩
    have B3 := Lib.hid (B2.out.trans (hb3.mono B2.out.size))
    clear hb3
    go_wp2
    go_ret
    exact ⟨by rw [hv.out]; rfl, B3.out⟩
  have hb := (mayB_iff q).1 hm
  have hb' := (mayB_iff r).1 hn
  have sx : IntKind.i64.wrap (r.x + r.w) = r.x + r.w := wrap_id (by omega)
  have sy : IntKind.i64.wrap (r.y + r.h) = r.y + r.h := wrap_id (by omega)
  have tx : IntKind.i64.wrap (q.x + q.w) = q.x + q.w := wrap_id (by omega)
  have ty : IntKind.i64.wrap (q.y + q.h) = q.y + q.h := wrap_id (by omega)
  clear hb hb'
  rw [hm] at H
  rcases bool_cases (decide (q.x ≤ r.x)) with d1 | d1 <;> rcases bool_cases (decide (q.y ≤ r.y)) with d2 | d2 <;> rcases bool_cases (decide (r.x + r.w ≤ q.x + q.w)) with d3 | d3 <;> rcases bool_cases (decide (r.y + r.h ≤ q.y + q.h)) with d4 | d4
  all_goals
    have hv : Hid (insB q r = (mayB q && mayB r && decide (q.x ≤ r.x) && decide (q.y ≤ r.y) && decide (r.x + r.w ≤ q.x + q.w) && decide (r.y + r.h ≤ q.y + q.h))) := rfl
    rw [hm, hn, d1, d2, d3, d4] at hv
    go_enter Try.func20, Try.ntmps20
    go_wp2_with fail
    refine H.out.mono ?_
    rintro e w2 ⟨rfl, hb2⟩
    have B2 := Lib.hid (B1.out.trans (hb2.mono B1.out.size))
    have HA2 := Lib.hid (HA.out.up hb2)
    have HC2 := Lib.hid (HC.out.up hb2)
    clear hb2
    obtain ⟨e0, e1, e2, e3⟩ := HC2.out
    go_wp2_with fail
    refine (rmay_any r _ HR.out).mono ?_
    rw [hn]
    rintro e w3 ⟨rfl, hb3⟩
    have B3 := Lib.hid (B2.out.trans (hb3.mono B2.out.size))
    clear e0 e1 e2 e3
    obtain ⟨c0, c1, c2, c3⟩ := HA2.out.up hb3
    obtain ⟨e0, e1, e2, e3⟩ := HC2.out.up hb3
    clear hb3
    go_wp2
    go_ret
    exact ⟨by rw [hv.out]; rfl, B3.out⟩
end Go.Proofs.Ytibjpkicchdomaa
