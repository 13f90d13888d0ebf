/- The document's example, on which each law looks. -/
import Derived.Test.YtcmkhppkdbdfdaaShares
namespace Go.Proofs.Ytcmkhppkdbdfdaa
open Go.RowKit Sh

theorem shA : okS 5 [0, 0, 0] := ⟨by simp, fun g hg => by simp at hg; omega, by omega, by omega, fun h => by omega⟩
theorem shB : okS (-5) [1, 9, 2] := ⟨by simp, fun g hg => by simp at hg; omega, by omega, by omega, fun _ => by decide⟩
theorem shA_is {l : List Int} (h : ShIs 5 [0, 0, 0] l) : l = [2, 2, 1] := h.one (.inl ⟨by omega, by decide⟩)
theorem shB_is {l : List Int} (h : ShIs (-5) [1, 9, 2] l) : l = [-1, -2, -2] := h.one (.inr ⟨by omega, 6, by decide, by decide⟩)

theorem three_row (w : World) (a b c : Int) : Row (w.alloc (.cells #[.int .i64 a, .int .i64 b, .int .i64 c] 3)) (.slice (some ⟨w.heap.size, 0, none⟩) 3 3) (ints [a, b, c]) := (IBlk.three w a b c).row 3 3 rfl

theorem callA (w : World) : Calls Try.prog 7 #[.int .i64 5, .slice (some ⟨w.heap.size, 0, none⟩) 3 3] (w.alloc (.cells #[.int .i64 0, .int .i64 0, .int .i64 0] 3)) fun e w' => ∃ v, e = .returned (.tuple #[v, .bool true]) ∧ Row w' v (ints [2, 2, 1]) ∧ Below w.heap.size w w' := by
  refine (shares_any 5 _ [0, 0, 0] _ (three_row w 0 0 0) (by unfold fits; omega) (by simp)).mono ?_
  rintro e w' ⟨hb, ⟨-, v, l, rfl, hs, hr⟩ | ⟨hn, -⟩⟩
  · exact ⟨v, rfl, by rw [← shA_is hs]; exact hr, below_one hb⟩
  · exact absurd shA hn
theorem callB (w : World) : Calls Try.prog 7 #[.int .i64 (-5), .slice (some ⟨w.heap.size, 0, none⟩) 3 3] (w.alloc (.cells #[.int .i64 1, .int .i64 9, .int .i64 2] 3)) fun e w' => ∃ v, e = .returned (.tuple #[v, .bool true]) ∧ Row w' v (ints [-1, -2, -2]) ∧ Below w.heap.size w w' := by
  refine (shares_any (-5) _ [1, 9, 2] _ (three_row w 1 9 2) (by unfold fits; omega) (by simp)).mono ?_
  rintro e w' ⟨hb, ⟨-, v, l, rfl, hs, hr⟩ | ⟨hn, -⟩⟩
  · exact ⟨v, rfl, by rw [← shB_is hs]; exact hr, below_one hb⟩
  · exact absurd shB hn
theorem callI (v : Value) (a b c : Int) (w : World) (h : Row w v (ints [a, b, c])) : Calls Try.prog 9 #[v, .slice (some ⟨w.heap.size, 0, none⟩) 3 3] (w.alloc (.cells #[.int .i64 a, .int .i64 b, .int .i64 c] 3)) fun e w' => e = .returned (.bool true) ∧ Below w.heap.size w w' := by
  refine (ints_any v _ [a, b, c] [a, b, c] _ (h.up ((Below.refl _ _).alloc (Nat.le_refl _) _)) (three_row w a b c) (by simp)).mono ?_
  rintro e w' ⟨rfl, hb⟩
  exact ⟨by simp [eqI], below_one hb⟩

set_option maxRecDepth 100000 in
theorem awake_any (w : World) : Calls Try.prog 6 #[] w fun e w' => e = .returned (.bool true) ∧ Below w.heap.size w w' := by
  go_enter Try.func6, Try.ntmps6
  go_wp2_with fail
  refine (callA w).mono ?_
  rintro e w1 ⟨v1, rfl, hr1, hb1⟩
  have R1 := Lib.hid hr1
  have B1 := Lib.hid hb1
  clear hr1 hb1
  go_wp2_with fail
  refine (callB w1).mono ?_
  rintro e w2 ⟨v2, rfl, hr2, hb2⟩
  have R2 := Lib.hid hr2
  have R1' := Lib.hid (R1.out.up hb2)
  have B2 := Lib.hid (B1.out.trans (hb2.mono B1.out.size))
  clear hr2 hb2 R1
  go_wp2_with fail
  refine (callI v1 2 2 1 w2 R1'.out).mono ?_
  rintro e w3 ⟨rfl, hb3⟩
  have R3 := Lib.hid (R2.out.up hb3)
  have B3 := Lib.hid (B2.out.trans (hb3.mono B2.out.size))
  clear hb3 R2 R1'
  go_wp2_with fail
  refine (callI v2 (-1) (-2) (-2) w3 R3.out).mono ?_
  rintro e w4 ⟨rfl, hb4⟩
  have B4 := Lib.hid (B3.out.trans (hb4.mono B3.out.size))
  clear hb4
  go_wp2
  go_ret
  exact ⟨rfl, B4.out⟩
end Go.Proofs.Ytcmkhppkdbdfdaa
