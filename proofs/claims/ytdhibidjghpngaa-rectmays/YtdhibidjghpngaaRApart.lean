/- The document's own answers: do two rectangles share no cell? -/
import Derived.Test.YtdhibidjghpngaaHas
namespace Go.Proofs.Ytdhibidjghpngaa
open Go.RowKit

def wr64 (n : Int) : Int := IntKind.i64.wrap n
/-- As the document's own answer reckons it. -/
def rapB (q r : R) : Bool := decide (wr64 (q.x + q.w) ≤ r.x) || decide (wr64 (r.x + r.w) ≤ q.x) || decide (wr64 (q.y + q.h) ≤ r.y) || decide (wr64 (r.y + r.h) ≤ q.y)

set_option maxRecDepth 100000 in
set_option maxHeartbeats 1600000 in
theorem rapart_any (q r : R) (w : World) :
    Calls Try.prog 30 #[val q, val r] w fun e w' => e = .returned (.bool (rapB q r)) ∧ Below w.heap.size w w' := by
  have B1 : Hid (Below w.heap.size w ((w.alloc (box q)).alloc (box r))) := ((Below.refl _ _).alloc (Nat.le_refl _) _).alloc (by simp) _
  have s1 : ∃ n, wr64 (q.x + q.w) = n := ⟨_, rfl⟩
  obtain ⟨n1, s1⟩ := s1
  have s2 : ∃ n, wr64 (r.x + r.w) = n := ⟨_, rfl⟩
  obtain ⟨n2, s2⟩ := s2
  have s3 : ∃ n, wr64 (q.y + q.h) = n := ⟨_, rfl⟩
  obtain ⟨n3, s3⟩ := s3
  have s4 : ∃ n, wr64 (r.y + r.h) = n := ⟨_, rfl⟩
  obtain ⟨n4, s4⟩ := s4
  have hv : Hid (rapB q r = (decide (n1 ≤ r.x) || decide (n2 ≤ q.x) || decide (n3 ≤ r.y) || decide (n4 ≤ q.y))) := (by rw [rapB, s1, s2, s3, s4] : rapB q r = _)
  have t1 : IntKind.i64.wrap (q.x + q.w) = n1 := s1
  have t2 : IntKind.i64.wrap (r.x + r.w) = n2 := s2
  have t3 : IntKind.i64.wrap (q.y + q.h) = n3 := s3
  have t4 : IntKind.i64.wrap (r.y + r.h) = n4 := s4
  clear s1 s2 s3 s4
  rcases bool_cases (decide (n1 ≤ r.x)) with d1 | d1 <;> rcases bool_cases (decide (n2 ≤ q.x)) with d2 | d2 <;> rcases bool_cases (decide (n3 ≤ r.y)) with d3 | d3 <;> rcases bool_cases (decide (n4 ≤ q.y)) with d4 | d4
  all_goals
    rw [d1, d2, d3, d4] at hv
    go_enter Try.func30, Try.ntmps30
    go_wp2
    go_ret
    exact ⟨by rw [hv.out]; rfl, B1.out⟩
end Go.Proofs.Ytdhibidjghpngaa
