/- The law RectCuts. -/
import Derived.Test.YtdhibidjghpngaaAwake
import Derived.Test.YtdhibidjghpngaaRCut1
import Derived.Test.YtdhibidjghpngaaRCut2
namespace Go.Proofs.Ytdhibidjghpngaa
open Go.RowKit

theorem rcut_any (r : R) (ax : Int) (v : Value) (ms : List Int) (w : World) (hf : r.fits) (hr : IRow w v ms) (hlen : ms.length ≤ 100) (hax : 0 ≤ ax ∧ ax ≤ 255) :
    Calls Try.prog 20 #[val r, .int .u8 ax, v] w fun e w' => CutSays r ax ms w e w' := by
  by_cases h : mayB r = true ∧ (ax = 1 ∨ ax = 2) ∧ 0 < ms.length
  · obtain ⟨hm, h12, hp⟩ := h
    rcases h12 with rfl | rfl
    · exact rcut1_any r v ms w hf hr hlen hm hp
    · exact rcut2_any r v ms w hf hr hlen hm hp
  · exact rcut_not r ax v ms w hf hr hax h

theorem cutParts_length (r : R) (ax : Int) (ms : List Int) (b : Bool) : (cutParts r ax ms b).length ≤ ms.length := by
  cases b with
  | false => simp [cutParts]
  | true => simp only [cutParts]; split <;> rw [partsL_length] <;> omega
theorem cutLines_length (r : R) (ax : Int) (ms : List Int) (b : Bool) : (cutLines r ax ms b).length ≤ ms.length := by
  cases b with
  | false => simp [cutLines]
  | true => simp only [cutLines]; split <;> rw [linesL_length] <;> omega

set_option maxRecDepth 100000 in
set_option maxHeartbeats 1600000 in
theorem rectCuts_any (r : R) (ax : Int) (v : Value) (ms : List Int) (w : World) (hf : r.fits) (hr : IRow w v ms) (hax : 0 ≤ ax ∧ ax ≤ 255) :
    Calls Try.prog 5 #[val r, .int .u8 ax, v] w fun e w' => e = .returned (.bool true) ∧ Below w.heap.size w w' := by
  obtain ⟨a, cap, rfl⟩ := hr.shape
  have HR := Lib.hid hr
  have HF := Lib.hid hf
  have HX := Lib.hid hax
  clear hr hf hax
  have B1 : Hid (Below w.heap.size w (w.alloc (box r))) := (Below.refl _ _).alloc (Nat.le_refl _) _
  have HA : Hid (RAt (w.alloc (box r)) w.heap.size 0 r) := rat_new w r
  by_cases h100 : 100 < ms.length
  · have d0 : decide ((100 : Int) < (ms.length : Int)) = true := by simp; omega
    go_enter Try.func5, Try.ntmps5
    go_wp2_with fail
    refine (awake_any _).mono ?_
    rintro e w2 ⟨rfl, hb2⟩
    have B2 := Lib.hid (B1.out.trans (hb2.mono B1.out.size))
    clear hb2
    go_wp2
    go_ret
    exact ⟨rfl, B2.out⟩
  · have d0 : decide ((100 : Int) < (ms.length : Int)) = false := by simp; omega
    have HL : Hid (ms.length ≤ 100) := (by omega : ms.length ≤ 100)
    go_enter Try.func5, Try.ntmps5
    go_wp2_with fail
    refine (cut_any r ax _ ms _ HF.out (HR.out.up B1.out) HL.out).mono ?_
    rintro e w2 ⟨v1, v2, b, rfl, hb, hr1, hr2, hb2⟩
    have B2 := Lib.hid (B1.out.trans (hb2.mono B1.out.size))
    have R1 := Lib.hid hr1
    have R2 := Lib.hid hr2
    have HB := Lib.hid hb
    obtain ⟨c0, c1, c2, c3⟩ := HA.out.up hb2
    clear hb2 hb hr1 hr2
    go_wp2_with fail
    refine (rcut_any r ax _ ms _ HF.out (HR.out.up B2.out) HL.out HX.out).mono ?_
    rintro e w3 ⟨v3, v4, b', rfl, hb', hr3, hr4, hb3⟩
    obtain rfl : b = b' := by
      rw [Bool.eq_iff_iff]
      exact HB.out.trans hb'.symm
    have B3 := Lib.hid (B2.out.trans (hb3.mono B2.out.size))
    have R3 := Lib.hid hr3
    have R4 := Lib.hid hr4
    have R1' := Lib.hid (R1.out.up hb3)
    have R2' := Lib.hid (R2.out.up hb3)
    clear hb3 hb' hr3 hr4 c0 c1 c2 c3
    have db : (b == b) = true := by simp
    go_wp2_with fail
    refine (same_any _ _ _ _ R1'.out R3.out (Nat.le_trans (cutParts_length r ax ms b) (by have := HL.out; omega))).mono ?_
    rintro e w4 ⟨rfl, hb4⟩
    have B4 := Lib.hid (B3.out.trans (hb4.mono B3.out.size))
    have R2'' := Lib.hid (R2'.out.up hb4)
    have R4' := Lib.hid (R4.out.up hb4)
    clear hb4
    go_wp2_with fail
    refine (same_any _ _ _ _ R2''.out R4'.out (Nat.le_trans (cutLines_length r ax ms b) (by have := HL.out; omega))).mono ?_
    rintro e w5 ⟨rfl, hb5⟩
    have B5 := Lib.hid (B4.out.trans (hb5.mono B4.out.size))
    clear hb5
    go_wp2_with fail
    refine (awake_any _).mono ?_
    rintro e w6 ⟨rfl, hb6⟩
    have B6 := Lib.hid (B5.out.trans (hb6.mono B5.out.size))
    clear hb6
    go_wp2
    go_ret
    exact ⟨rfl, B6.out⟩
theorem rectCuts_wf (v v1 : Value) (r : R) (ax : Int) (ms : List Int) (w : World) (hv : v = val r) (hf : r.fits) (hax : 0 ≤ ax ∧ ax ≤ 255) (hr : IRow w v1 ms) :
    Calls Try.prog 5 #[v, .int .u8 ax, v1] w fun e w' => e = .returned (.bool true) ∧ Below w.heap.size w w' := by
  subst hv
  exact rectCuts_any r ax v1 ms w hf hr hax
end Go.Proofs.Ytdhibidjghpngaa
