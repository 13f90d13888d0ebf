/- The law RectMays. -/
import Derived.Test.YtdhibidjghpngaaAwake
import Derived.Test.YtdhibidjghpngaaApart
import Derived.Test.YtdhibidjghpngaaArea
namespace Go.Proofs.Ytdhibidjghpngaa
open Go.RowKit

set_option maxRecDepth 100000 in
set_option maxHeartbeats 1600000 in
theorem rectMays_any (v : Value) (l : List R) (w : World) (hr : RRow w v l) (hf : fitsAll l) :
    Calls Try.prog 3 #[v] w fun e w' => e = .returned (.bool true) ∧ Below w.heap.size w w' := by
  obtain ⟨a, cap, rfl⟩ := hr.shape
  have HR := Lib.hid hr
  have HF := Lib.hid hf
  clear hr hf
  by_cases h40 : 40 < l.length
  · have d0 : decide ((40 : Int) < (l.length : Int)) = true := by simp; omega
    go_enter Try.func3, Try.ntmps3
    go_wp2_with fail
    refine (awake_any _).mono ?_
    rintro e w2 ⟨rfl, hb2⟩
    have B2 := Lib.hid hb2
    clear hb2
    go_wp2
    go_ret
    exact ⟨rfl, B2.out⟩
  · have d0 : decide ((40 : Int) < (l.length : Int)) = false := by simp; omega
    have HL : Hid (l.length ≤ 40) := (by omega : l.length ≤ 40)
    have HL' : Hid (l.length ≤ 100000) := (by omega : l.length ≤ 100000)
    go_enter Try.func3, Try.ntmps3
    go_wp2_with fail
    refine (may_any _ l _ HR.out HL'.out HF.out).mono ?_
    rintro e w2 ⟨rfl, hb2⟩
    have B2 := Lib.hid hb2
    clear hb2
    generalize hbm : mays l = bm
    have HM := Lib.hid hbm
    clear hbm
    go_wp2_with fail
    refine (rall_any _ l _ (HR.out.up B2.out) HL'.out HF.out).mono ?_
    rw [HM.out]
    rintro e w3 ⟨rfl, hb3⟩
    have B3 := Lib.hid (B2.out.trans (hb3.mono B2.out.size))
    clear hb3
    have db : (bm == bm) = true := by simp
    go_wp2_with fail
    refine (apart_any _ l _ (HR.out.up B3.out) HL'.out HF.out).mono ?_
    rintro e w4 ⟨rfl, hb4⟩
    have B4 := Lib.hid (B3.out.trans (hb4.mono B3.out.size))
    clear hb4
    generalize hba : apartB l = ba
    have HBa := Lib.hid hba
    clear hba
    go_wp2_with fail
    refine (raparts_any _ l _ (HR.out.up B4.out) HL'.out HF.out).mono ?_
    rw [HBa.out]
    rintro e w5 ⟨rfl, hb5⟩
    have B5 := Lib.hid (B4.out.trans (hb5.mono B4.out.size))
    clear hb5
    go_wp2_with fail
    refine (area_any _ l _ (HR.out.up B5.out) HL.out HF.out).mono ?_
    rintro e w6 ⟨rfl, hb6⟩
    have B6 := Lib.hid (B5.out.trans (hb6.mono B5.out.size))
    clear hb6
    generalize hn : areaL l = n
    have HN := Lib.hid hn
    clear hn
    go_wp2_with fail
    refine (rarea_any _ l _ (HR.out.up B6.out) HL.out HF.out).mono ?_
    rw [HN.out]
    rintro e w7 ⟨rfl, hb7⟩
    have B7 := Lib.hid (B6.out.trans (hb7.mono B6.out.size))
    clear hb7
    go_wp2_with fail
    refine (awake_any _).mono ?_
    rintro e w8 ⟨rfl, hb8⟩
    have B8 := Lib.hid (B7.out.trans (hb8.mono B7.out.size))
    clear hb8
    go_wp2
    go_ret
    exact ⟨rfl, B8.out⟩
end Go.Proofs.Ytdhibidjghpngaa
