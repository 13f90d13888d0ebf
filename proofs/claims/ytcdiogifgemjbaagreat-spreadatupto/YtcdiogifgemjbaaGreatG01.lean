/- Texts of this seat, 3 in one file. -/
import Derived.Test.YtcdiogifgemjbaaGreatProg
import Derived.WalkKit
import Derived.WalkSpells
import Derived.WalkLawsBesides
import Derived.Lib.OthersKept
import Derived.Lib.Hide
import Derived.Lib.Strings
import Derived.Deep.QuietTactic
import Derived.BigQuiet
import Derived.BigRegion
import Derived.Deep.LoopGhost
import Derived.Shelf.SlicesQ.Load
/- Small words for a walk's end: what is returned, by its parts. -/
namespace Go.Proofs.YtcdiogifgemjbaaGreat
open Go.RowKit

theorem ret_int {k : IntKind} {a b : Int} (h : a = b) : Ending.returned (.int k a) = .returned (.int k b) := by rw [h]
theorem ret2 {k k' : IntKind} {a b c d : Int} (h : a = b) (h' : c = d) : Ending.returned (.tuple #[.int k a, .int k' c]) = .returned (.tuple #[.int k b, .int k' d]) := by rw [h, h']
theorem retIB {k : IntKind} {a b : Int} {x : Bool} (h : a = b) : Ending.returned (.tuple #[.int k a, .bool x]) = .returned (.tuple #[.int k b, .bool x]) := by rw [h]
theorem retSI {k : IntKind} {a b : ByteArray} {c d : Int} (h : a = b) (h' : c = d) : Ending.returned (.tuple #[.string a, .int k c]) = .returned (.tuple #[.string b, .int k d]) := by rw [h, h']
theorem ret3 {k k' k'' : IntKind} {a b c d x y : Int} (h : a = b) (h' : c = d) (h'' : x = y) : Ending.returned (.tuple #[.int k a, .int k' c, .int k'' x]) = .returned (.tuple #[.int k b, .int k' d, .int k'' y]) := by rw [h, h', h'']
theorem ret_str {a b : ByteArray} (h : a = b) : Ending.returned (.string a) = .returned (.string b) := by rw [h]
theorem str_app (a b : List UInt8) : (⟨a.toArray⟩ : ByteArray) ++ ⟨b.toArray⟩ = ⟨(a ++ b).toArray⟩ := by
  apply ByteArray.ext; simp
theorem str_self (s : ByteArray) : (⟨s.data.toList.toArray⟩ : ByteArray) = s := by simp
end Go.Proofs.YtcdiogifgemjbaaGreat
/- Rectangles: what they are in words, and the small calls on them. -/
namespace Go.Proofs.YtcdiogifgemjbaaGreat
open Go.RowKit

structure R where
  x : Int
  y : Int
  w : Int
  h : Int
deriving DecidableEq, Inhabited

def enc (r : R) : List Value := [.int .i64 r.x, .int .i64 r.y, .int .i64 r.w, .int .i64 r.h]
abbrev val (r : R) : Value := .agg #[.int .i64 r.x, .int .i64 r.y, .int .i64 r.w, .int .i64 r.h]
def fits (n : Int) : Prop := -9223372036854775808 ≤ n ∧ n ≤ 9223372036854775807
def R.fits (r : R) : Prop := YtcdiogifgemjbaaGreat.fits r.x ∧ YtcdiogifgemjbaaGreat.fits r.y ∧ YtcdiogifgemjbaaGreat.fits r.w ∧ YtcdiogifgemjbaaGreat.fits r.h
def extB (f s : Int) : Bool := decide (0 ≤ f ∧ 1 ≤ s ∧ f + s ≤ 10000)
def mayB (r : R) : Bool := extB r.x r.w && extB r.y r.h

theorem wrap_id {n : Int} (h : -9223372036854775808 ≤ n ∧ n ≤ 9223372036854775807) : IntKind.i64.wrap n = n := by rw [IntKind.wrap_i64]; omega

theorem extent_any (f s : Int) (w : World) (hf : fits f) :
    Calls Tryz.prog 90 #[.int .i64 f, .int .i64 s] w fun e w' => e = .returned (.bool (extB f s)) ∧ w = w' := by
  by_cases h0 : 0 ≤ f
  · by_cases h1 : 1 ≤ s
    · have hw : IntKind.i64.wrap (10000 - f) = 10000 - f := wrap_id (by have := hf.2; omega)
      by_cases h2 : s ≤ 10000 - f
      · go_enter Tryz.func90, Tryz.ntmps90
        go_wp2
        go_ret
        exact ⟨by rw [extB, decide_eq_true (by omega)]; simp, rfl⟩
      · have d2 : decide (s ≤ 10000 - f) = false := decide_eq_false h2
        go_enter Tryz.func90, Tryz.ntmps90
        go_wp2
        go_ret
        exact ⟨by rw [extB, decide_eq_false (by omega)]; simp, rfl⟩
    · have d1 : decide (1 ≤ s) = false := decide_eq_false h1
      go_enter Tryz.func90, Tryz.ntmps90
      go_wp2
      go_ret
      exact ⟨by rw [extB, decide_eq_false (by omega)]; simp, rfl⟩
  · have d0 : decide (0 ≤ f) = false := decide_eq_false h0
    go_enter Tryz.func90, Tryz.ntmps90
    go_wp2
    go_ret
    exact ⟨by rw [extB, decide_eq_false (by omega)]; simp, rfl⟩
end Go.Proofs.YtcdiogifgemjbaaGreat
/- Rectangles: the calls on one or two of them. -/
namespace Go.Proofs.YtcdiogifgemjbaaGreat
open Go.RowKit

theorem may1_any (r : R) (w : World) (hr : r.fits) :
    Calls Tryz.prog 89 #[val r] w fun e w' => e = .returned (.bool (mayB r)) ∧ Below w.heap.size w w' := by
  have HX := Lib.hid hr.1
  have HY := Lib.hid hr.2.1
  clear hr
  cases h1 : extB r.x r.w with
  | false =>
    go_enter Tryz.func89, Tryz.ntmps89
    go_wp2_with (go_at_call 90; refine (extent_any _ _ _ HX.out).mono ?_; rw [h1]; rintro e w' ⟨rfl, rfl⟩)
    go_ret
    exact ⟨by rw [mayB, h1]; rfl, (Below.refl _ _).alloc (Nat.le_refl _) _⟩
  | true =>
    cases h2 : extB r.y r.h with
    | false =>
      go_enter Tryz.func89, Tryz.ntmps89
      go_wp2_with fail
      refine (extent_any r.x r.w _ HX.out).mono ?_
      rw [h1]; rintro e w' ⟨rfl, rfl⟩
      go_wp2_with fail
      refine (extent_any r.y r.h _ HY.out).mono ?_
      rw [h2]; rintro e w' ⟨rfl, rfl⟩
      go_wp2
      go_ret
      exact ⟨by rw [mayB, h1, h2]; rfl, (Below.refl _ _).alloc (Nat.le_refl _) _⟩
    | true =>
      go_enter Tryz.func89, Tryz.ntmps89
      go_wp2_with fail
      refine (extent_any r.x r.w _ HX.out).mono ?_
      rw [h1]; rintro e w' ⟨rfl, rfl⟩
      go_wp2_with fail
      refine (extent_any r.y r.h _ HY.out).mono ?_
      rw [h2]; rintro e w' ⟨rfl, rfl⟩
      go_wp2
      go_ret
      exact ⟨by rw [mayB, h1, h2]; rfl, (Below.refl _ _).alloc (Nat.le_refl _) _⟩

theorem mayB_iff (r : R) : mayB r = true ↔ (0 ≤ r.x ∧ 1 ≤ r.w ∧ r.x + r.w ≤ 10000) ∧ 0 ≤ r.y ∧ 1 ≤ r.h ∧ r.y + r.h ≤ 10000 := by simp [mayB, extB]
theorem mayB_no {r : R} (h : ¬((0 ≤ r.x ∧ 1 ≤ r.w ∧ r.x + r.w ≤ 10000) ∧ 0 ≤ r.y ∧ 1 ≤ r.h ∧ r.y + r.h ≤ 10000)) : mayB r = false := by
  cases e : mayB r with
  | false => rfl
  | true => exact absurd ((mayB_iff r).1 e) h

theorem rmay_any (r : R) (w : World) (hr : r.fits) :
    Calls Tryz.prog 71 #[val r] w fun e w' => e = .returned (.bool (mayB r)) ∧ Below w.heap.size w w' := by
  obtain ⟨⟨x1, x2⟩, ⟨y1, y2⟩, ⟨w1, w2⟩, ⟨h1, h2⟩⟩ := hr
  obtain ⟨x, y, wd, ht⟩ := r
  have B := Lib.hid ((Below.refl w.heap.size w).alloc (Nat.le_refl _) (.cells #[.int .i64 x, .int .i64 y, .int .i64 wd, .int .i64 ht] 23))
  by_cases a1 : x < 0
  · have d1 : decide (x < 0) = true := decide_eq_true a1
    go_enter Tryz.func71, Tryz.ntmps71
    go_wp2
    go_ret
    exact ⟨by rw [mayB_no (by simp; omega)]; rfl, B.out⟩
  have d1 : decide (x < 0) = false := decide_eq_false a1
  by_cases a2 : 10000 < x
  · have d2 : decide (10000 < x) = true := decide_eq_true a2
    go_enter Tryz.func71, Tryz.ntmps71
    go_wp2
    go_ret
    exact ⟨by rw [mayB_no (by simp; omega)]; rfl, B.out⟩
  have d2 : decide (10000 < x) = false := decide_eq_false a2
  by_cases a3 : y < 0
  · have d3 : decide (y < 0) = true := decide_eq_true a3
    go_enter Tryz.func71, Tryz.ntmps71
    go_wp2
    go_ret
    exact ⟨by rw [mayB_no (by simp; omega)]; rfl, B.out⟩
  have d3 : decide (y < 0) = false := decide_eq_false a3
  by_cases a4 : 10000 < y
  · have d4 : decide (10000 < y) = true := decide_eq_true a4
    go_enter Tryz.func71, Tryz.ntmps71
    go_wp2
    go_ret
    exact ⟨by rw [mayB_no (by simp; omega)]; rfl, B.out⟩
  have d4 : decide (10000 < y) = false := decide_eq_false a4
  by_cases b1 : 0 < wd
  case neg =>
    have e1 : decide (0 < wd) = false := decide_eq_false b1
    go_enter Tryz.func71, Tryz.ntmps71
    go_wp2
    go_ret
    exact ⟨by rw [mayB_no (by simp; omega)]; rfl, B.out⟩
  have e1 : decide (0 < wd) = true := decide_eq_true b1
  by_cases b2 : wd ≤ 10000
  case neg =>
    have e2 : decide (wd ≤ 10000) = false := decide_eq_false b2
    go_enter Tryz.func71, Tryz.ntmps71
    go_wp2
    go_ret
    exact ⟨by rw [mayB_no (by simp; omega)]; rfl, B.out⟩
  have e2 : decide (wd ≤ 10000) = true := decide_eq_true b2
  by_cases b3 : 0 < ht
  case neg =>
    have e3 : decide (0 < ht) = false := decide_eq_false b3
    go_enter Tryz.func71, Tryz.ntmps71
    go_wp2
    go_ret
    exact ⟨by rw [mayB_no (by simp; omega)]; rfl, B.out⟩
  have e3 : decide (0 < ht) = true := decide_eq_true b3
  by_cases b4 : ht ≤ 10000
  case neg =>
    have e4 : decide (ht ≤ 10000) = false := decide_eq_false b4
    go_enter Tryz.func71, Tryz.ntmps71
    go_wp2
    go_ret
    exact ⟨by rw [mayB_no (by simp; omega)]; rfl, B.out⟩
  have e4 : decide (ht ≤ 10000) = true := decide_eq_true b4
  have sx : IntKind.i64.wrap (x + wd) = x + wd := wrap_id (by omega)
  have sy : IntKind.i64.wrap (y + ht) = y + ht := wrap_id (by omega)
  by_cases c1 : x + wd ≤ 10000
  case neg =>
    have f1 : decide (x + wd ≤ 10000) = false := decide_eq_false c1
    go_enter Tryz.func71, Tryz.ntmps71
    go_wp2
    go_ret
    exact ⟨by rw [mayB_no (by simp; omega)]; rfl, B.out⟩
  have f1 : decide (x + wd ≤ 10000) = true := decide_eq_true c1
  by_cases c2 : y + ht ≤ 10000
  case neg =>
    have f2 : decide (y + ht ≤ 10000) = false := decide_eq_false c2
    go_enter Tryz.func71, Tryz.ntmps71
    go_wp2
    go_ret
    exact ⟨by rw [mayB_no (by simp; omega)]; rfl, B.out⟩
  have f2 : decide (y + ht ≤ 10000) = true := decide_eq_true c2
  go_enter Tryz.func71, Tryz.ntmps71
  go_wp2
  go_ret
  exact ⟨by rw [(mayB_iff _).2 (by simp; omega)]; rfl, B.out⟩
end Go.Proofs.YtcdiogifgemjbaaGreat
