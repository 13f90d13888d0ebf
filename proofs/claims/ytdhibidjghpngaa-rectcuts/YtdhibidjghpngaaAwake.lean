/- The document's example. -/
import Derived.Test.YtdhibidjghpngaaSame
namespace Go.Proofs.Ytdhibidjghpngaa
open Go.RowKit

abbrev exR : R := ⟨0, 0, 80, 24⟩
theorem ex_cut : cutP exR 1 [40, 39] := by
  refine ⟨by decide, .inl ⟨rfl, fun k m hk hm => ?_, by decide⟩⟩
  match k, hk with
  | 0, _ => simp at hm; subst hm; decide
  | 1, _ => simp at hm; subst hm; decide
theorem ex_parts : cutParts exR 1 [40, 39] true = [⟨0, 0, 40, 24⟩, ⟨41, 0, 39, 24⟩] := by decide
theorem ex_lines : cutLines exR 1 [40, 39] true = [⟨40, 0, 1, 24⟩] := by decide
theorem irow_two (w : World) (a b : Int) : IRow (w.alloc (.cells #[.int .i64 a, .int .i64 b] 3)) (.slice (some ⟨w.heap.size, 0, none⟩) 2 2) [a, b] := by
  refine .inr ⟨w.heap.size, 0, 2, rfl, fun j m hm => ?_⟩
  match j with
  | 0 => simp at hm; subst hm; simp
  | 1 => simp at hm; subst hm; simp
  | j + 2 => simp at hm

set_option maxRecDepth 100000 in
set_option maxHeartbeats 1600000 in
theorem awake_any (w : World) : Calls Try.prog 7 #[] w fun e w' => e = .returned (.bool true) ∧ Below w.heap.size w w' := by
  have hg := eq_guard
  have hE1 : ∀ w, (Op.equalIn 10000 29 (.agg #[.int .i64 41, .int .i64 0, .int .i64 39, .int .i64 24]) (.agg #[.int .i64 41, .int .i64 0, .int .i64 39, .int .i64 24])).run Try.prog w = .ok true w := eq_self ⟨41, 0, 39, 24⟩
  have hE2 : ∀ w, (Op.equalIn 10000 29 (.agg #[.int .i64 40, .int .i64 0, .int .i64 1, .int .i64 24]) (.agg #[.int .i64 40, .int .i64 0, .int .i64 1, .int .i64 24])).run Try.prog w = .ok true w := eq_self ⟨40, 0, 1, 24⟩
  have B1 : Hid (Below w.heap.size w (w.alloc (.cells #[.int .i64 40, .int .i64 39] 3))) := (Below.refl _ _).alloc (Nat.le_refl _) _
  have HI := Lib.hid (irow_two w 40 39)
  have HC := Lib.hid (cut_any exR 1 _ [40, 39] _ ⟨by simp [fits], by simp [fits], by simp [fits], by simp [fits]⟩ HI.out (by simp))
  go_enter Try.func7, Try.ntmps7
  go_wp2_with fail
  refine HC.out.mono ?_
  rintro e w2 ⟨v1, v2, b, rfl, hb, hr1, hr2, hb2⟩
  obtain rfl : b = true := hb.2 ex_cut
  rw [ex_parts] at hr1
  rw [ex_lines] at hr2
  have B2 := Lib.hid (B1.out.trans (hb2.mono B1.out.size))
  clear hb2 hb
  obtain ⟨a1, cap1, rfl⟩ := hr1.shape
  obtain ⟨a2, cap2, rfl⟩ := hr2.shape
  obtain ⟨b1, o1, rfl, hat1⟩ := hr1.place (by simp)
  obtain ⟨b2, o2, rfl, hat2⟩ := hr2.place (by simp)
  obtain ⟨c0, c1, c2, c3⟩ := hat1 1 ⟨41, 0, 39, 24⟩ rfl
  obtain ⟨e0, e1, e2, e3⟩ := hat2 0 ⟨40, 0, 1, 24⟩ rfl
  simp only [Nat.zero_mul, Nat.add_zero, Nat.one_mul] at c0 c1 c2 c3 e0 e1 e2 e3
  clear hat1 hat2 hr1 hr2
  go_wp2
  go_ret
  exact ⟨rfl, B2.out⟩
end Go.Proofs.Ytdhibidjghpngaa
