/- sort.Search, with a closure that keeps two things. -/
import Derived.Test.YtcmkhppkdbdfdaaBlk
namespace Go.Proofs.Ytcmkhppkdbdfdaa
open Go.RowKit

theorem enters22 : Enters 22 := enters_of Try.func22 (by kernel_rfl) rfl

set_option maxRecDepth 100000 in
theorem search_any (n : Nat) (hn : n ≤ 1099511627776) (p : Nat → Bool) (p1 p2 : Value) (w : World)
    (hP : ∀ (i : Nat) (W : World), i < n → Below w.heap.size w W → Calls Try.prog 22 #[.int .i64 i, p1, p2] W fun e w' => e = .returned (.bool (p i)) ∧ Below W.heap.size W w') :
    Calls Try.prog 21 #[.int .i64 n, .func (.func 22) #[] #[p1, p2]] w fun e w' => ∃ r : Nat, r ≤ n ∧ e = .returned (.int .i64 r) ∧ (r = 0 ∨ p (r - 1) = false) ∧ (r = n ∨ p r = true) ∧ Below w.heap.size w w' := by
  have hent : ∀ (args : Array Value) (w : World), (callFunc 22 args).run Try.prog w = .ok (.enter 22 args) w := enters22
  have HP := Lib.hid hP
  clear hP
  go_enter Try.func21, Try.ntmps21
  go_wp2
  go_loopg [5, 6] (n + 1) (fun g vi vj wr => ∃ i j : Nat, j - i ≤ g ∧ i ≤ j ∧ j ≤ n ∧ vi = .int .i64 i ∧ vj = .int .i64 j ∧ (i = 0 ∨ p (i - 1) = false) ∧ (j = n ∨ p j = true) ∧ Below w.heap.size w wr)
  case atStart => exact ⟨0, n, by omega, by omega, by omega, rfl, rfl, .inl rfl, .inl rfl, Below.refl _ _⟩
  case round =>
    obtain ⟨i, j, hg, hij, hjn, rfl, rfl, hi, hj, hb⟩ := hrel
    have HG := Lib.hid hg
    have HI := Lib.hid hi
    have HJ := Lib.hid hj
    have HB := Lib.hid hb
    clear hg hi hj hb
    by_cases hlt : i < j
    · have hlti : (i : Int) < (j : Int) := by omega
      obtain ⟨h, hh⟩ : ∃ h : Nat, ((i : Int) + (j : Int)) / 2 = (h : Int) := ⟨(i + j) / 2, by omega⟩
      have h1 : i ≤ h := by omega
      have h2 : h < j := by omega
      have HC := Lib.hid (HP.out h wr (by omega) HB.out)
      go_wp2_with fail
      refine HC.out.mono ?_
      rintro e w2 ⟨rfl, hb2⟩
      have B2 := Lib.hid (HB.out.trans (hb2.mono HB.out.size))
      clear hb2 hh
      cases hp : p h with
      | true =>
        have HPH := Lib.hid hp
        clear hp
        go_wp2
        go_roundg (gk - 1)
        case measure => have := HG.out; omega
        case rel => exact ⟨i, h, by have := HG.out; omega, by omega, by omega, rfl, rfl, HI.out, .inr HPH.out, B2.out⟩
      | false =>
        have HPH := Lib.hid hp
        clear hp
        go_wp2
        go_roundg (gk - 1)
        case measure => have := HG.out; omega
        case rel => exact ⟨h + 1, j, by have := HG.out; omega, by omega, by omega, by go_num, rfl, .inr (by rw [Nat.add_sub_cancel]; exact HPH.out), HJ.out, B2.out⟩
    · obtain rfl : i = j := by omega
      have hkl : ((i : Int) < (i : Int)) = False := by simp
      go_wp2
      go_ret
      exact ⟨i, by omega, rfl, HI.out, HJ.out, HB.out⟩
end Go.Proofs.Ytcmkhppkdbdfdaa
