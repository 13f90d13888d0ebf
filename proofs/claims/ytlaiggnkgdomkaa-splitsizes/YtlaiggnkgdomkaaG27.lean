/- Texts of this seat, 2 in one file. -/
import Derived.Test.YtlaiggnkgdomkaaG26
import Derived.Test.YtlaiggnkgdomkaaG09
/- The document's example, on which each law looks. -/
namespace Go.Proofs.Ytlaiggnkgdomkaa
open Go.RowKit

abbrev exT : T := .node 1 ⟨0, 0, 3, 3⟩ 4 []
abbrev exC : C := ⟨1, ⟨0, 0, 3, 3⟩, 4, none, 0, 0⟩
theorem ex_is (w : World) : Is w exC exT := by
  refine .mk exC [] [] (.inl ⟨_, _, rfl, rfl⟩) rfl ⟨⟨by simp, by simp⟩, ⟨?_, ?_, ?_, ?_⟩, ?_, by simp⟩ (fun j x t hx => by simp at hx)
  all_goals (unfold fits; simp only; omega)
theorem ex_tile : tileB exT = true := by
  have h1 : mayT exT = true := by decide
  have h2 : fitB exT = true := (fitB_iff exT).2 (.inl rfl)
  unfold tileB
  rw [h1, preT_eq]
  simp [preL, T.kids, h2]
theorem ex_can : canT 4 [2] exT = true := by
  have h1 : findT 4 exT = some [] := by decide
  have h2 := (lf_some (u := exT) (by decide) ex_tile h1 rfl).1
  rw [can_yes ex_tile h2]
  decide
theorem callS (w : World) : Calls Try.prog 4 #[.int .i64 80, .int .i64 0] w fun e w' => e = .returned (.tuple #[.int .i64 40, .int .i64 39, .bool true]) ∧ w' = w :=
  (psizes_any 80 0 ⟨by omega, by omega⟩ ⟨by omega, by omega⟩ w).mono fun e w' h => ⟨h.2, h.1⟩
theorem callC (w : World) : Calls Try.prog 7 #[cval exC, .int .i64 4, .slice (some ⟨w.heap.size, 0, none⟩) 1 1] (w.alloc (.cells #[.int .u8 2] 5)) fun e w' => e = .returned (.bool true) ∧ Below w.heap.size w w' := by
  refine (pcan_any exT exC 4 _ [2] _ (by decide) may_small (ex_is _) (row_one w _ _) (by simp)).mono ?_
  rintro e w' ⟨rfl, hb⟩
  exact ⟨by rw [ex_can], below_one hb⟩

set_option maxRecDepth 100000 in
theorem awake12_any (w : World) : Calls Try.prog 6 #[] w fun e w' => e = .returned (.bool true) ∧ Below w.heap.size w w' := by
  have HC := Lib.hid (callC w)
  go_enter Try.func6, Try.ntmps6
  go_wp2_with fail
  refine (callS w).mono ?_
  rintro e w2 ⟨rfl, hw2⟩
  rw [hw2]
  clear hw2 w2
  go_wp2_with fail
  refine HC.out.mono ?_
  rintro e w3 ⟨rfl, hb3⟩
  have B3 := Lib.hid hb3
  clear hb3
  go_wp2
  go_ret
  exact ⟨rfl, B3.out⟩
end Go.Proofs.Ytlaiggnkgdomkaa
/- The law SplitSizes. -/
namespace Go.Proofs.Ytlaiggnkgdomkaa
open Go.RowKit

set_option maxHeartbeats 1000000 in
set_option maxRecDepth 100000 in
theorem splitSizes_any (s z : Int) (w : World) (hs : fits s) (hz : fits z) : Calls Try.prog 3 #[.int .i64 s, .int .i64 z] w fun e w' => e = .returned (.bool true) ∧ Below w.heap.size w w' := by
  have HP := Lib.hid (fun W => psizes_any s z hs hz W)
  have HR := Lib.hid (fun W => rsplits_any s z hs hz W)
  by_cases hok : spOk s z = true
  · have h3 : 3 ≤ s ∧ 0 ≤ z := by
      unfold spOk at hok
      simp only [Bool.and_eq_true, decide_eq_true_eq] at hok
      exact hok
    have hin := spB_in h3.1 h3.2
    have hev := spB_even h3.1
    have hzz : z = 0 → spB s z = spB s 0 := fun e => by rw [e]
    have HP2 : Hid (∀ W, Calls Try.prog 4 #[.int .i64 s, .int .i64 z] W fun e w' => e = .returned (.tuple #[.int .i64 (s - 1 - spB s z), .int .i64 (spB s z), .bool true]) ∧ w' = W) := Lib.hid fun W => (HP.out W).mono fun e w' h => ⟨h.2.trans (if_pos hok), h.1⟩
    have HR2 : Hid (∀ W, Calls Try.prog 5 #[.int .i64 s, .int .i64 z] W fun e w' => e = .returned (.tuple #[.int .i64 (s - 1 - spB s z), .int .i64 (spB s z), .bool true]) ∧ w' = W) := Lib.hid fun W => (HR.out W).mono fun e w' h => ⟨h.2.trans (if_pos hok), h.1⟩
    clear HP HR hok
    obtain ⟨s1, s2⟩ := hs
    obtain ⟨n, hn⟩ : ∃ n, spB s z = n := ⟨_, rfl⟩
    obtain ⟨m, hm⟩ : ∃ m, s - 1 - n = m := ⟨_, rfl⟩
    rw [hn] at HP2 HR2 hin hzz
    rw [hm] at HP2 HR2
    have e1 : (m != m) = false := by simp
    have e2 : (n != n) = false := by simp
    have e3 : decide (1 ≤ m) = true := decide_eq_true (by omega)
    have e4 : decide (1 ≤ n) = true := decide_eq_true (by omega)
    have e5 : (m == s - 1 - n) = true := by rw [beq_iff_eq]; omega
    have w1 : IntKind.i64.wrap (s - 1) = s - 1 := wrap_id (by omega)
    have w2 : IntKind.i64.wrap (s - 1 - n) = s - 1 - n := wrap_id (by omega)
    by_cases hz0 : z = 0
    · have e6 : (z != 0) = false := by simp [hz0]
      have w3 : IntKind.i64.wrap (m - n) = m - n := wrap_id (by omega)
      have hq := hzz hz0
      have e7 : decide (m - n ≤ 1) = true := decide_eq_true (by omega)
      have e8 : decide (0 ≤ m - n) = true := decide_eq_true (by omega)
      have e9 : decide (n ≤ m) = true := decide_eq_true (by omega)
      clear hn hm hin hev hzz hz0 h3 hq
      go_enter Try.func3, Try.ntmps3
      go_wp2_with fail
      refine (HP2.out _).mono ?_
      rintro e w1 ⟨rfl, hw1⟩
      rw [hw1]
      clear hw1 w1
      go_wp2_with fail
      refine (HR2.out _).mono ?_
      rintro e w1 ⟨rfl, hw1⟩
      rw [hw1]
      clear hw1 w1
      go_wp2_with fail
      refine (awake12_any w).mono ?_
      rintro e w4 ⟨rfl, hb4⟩
      have B4 := Lib.hid hb4
      clear hb4
      go_wp2
      go_ret
      exact ⟨rfl, B4.out⟩
    · have e6 : (z != 0) = true := by simp [hz0]
      clear hn hm hin hev hzz hz0 h3
      go_enter Try.func3, Try.ntmps3
      go_wp2_with fail
      refine (HP2.out _).mono ?_
      rintro e w1 ⟨rfl, hw1⟩
      rw [hw1]
      clear hw1 w1
      go_wp2_with fail
      refine (HR2.out _).mono ?_
      rintro e w1 ⟨rfl, hw1⟩
      rw [hw1]
      clear hw1 w1
      go_wp2_with fail
      refine (awake12_any w).mono ?_
      rintro e w4 ⟨rfl, hb4⟩
      have B4 := Lib.hid hb4
      clear hb4
      go_wp2
      go_ret
      exact ⟨rfl, B4.out⟩
  · have HP2 : Hid (∀ W, Calls Try.prog 4 #[.int .i64 s, .int .i64 z] W fun e w' => e = .returned (.tuple #[.int .i64 0, .int .i64 0, .bool false]) ∧ w' = W) := Lib.hid fun W => (HP.out W).mono fun e w' h => ⟨h.2.trans (if_neg hok), h.1⟩
    have HR2 : Hid (∀ W, Calls Try.prog 5 #[.int .i64 s, .int .i64 z] W fun e w' => e = .returned (.tuple #[.int .i64 0, .int .i64 0, .bool false]) ∧ w' = W) := Lib.hid fun W => (HR.out W).mono fun e w' h => ⟨h.2.trans (if_neg hok), h.1⟩
    clear HP HR hok hs hz
    go_enter Try.func3, Try.ntmps3
    go_wp2_with fail
    refine (HP2.out _).mono ?_
    rintro e w1 ⟨rfl, hw1⟩
    rw [hw1]
    clear hw1 w1
    go_wp2_with fail
    refine (HR2.out _).mono ?_
    rintro e w1 ⟨rfl, hw1⟩
    rw [hw1]
    clear hw1 w1
    go_wp2_with fail
    refine (awake12_any w).mono ?_
    rintro e w4 ⟨rfl, hb4⟩
    have B4 := Lib.hid hb4
    clear hb4
    go_wp2
    go_ret
    exact ⟨rfl, B4.out⟩
end Go.Proofs.Ytlaiggnkgdomkaa
