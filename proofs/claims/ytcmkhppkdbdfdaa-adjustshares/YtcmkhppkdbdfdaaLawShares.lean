/- The law AdjustShares. -/
import Derived.Test.YtcmkhppkdbdfdaaAwake9
import Derived.Test.YtcmkhppkdbdfdaaRShares
namespace Go.Proofs.Ytcmkhppkdbdfdaa
open Go.RowKit Sh

theorem eqI_self (l : List Int) : eqI l l = true := by simp [eqI]

set_option maxRecDepth 100000 in
set_option maxHeartbeats 1000000 in
theorem adjustShares_any (b : Int) (v : Value) (gs : List Int) (w : World) (hv : Row w v (ints gs)) (hb : fits b) :
    Calls Try.prog 3 #[.int .i64 b, v] w fun e w' => e = .returned (.bool true) ∧ Below w.heap.size w w' := by
  have HAW := Lib.hid (awake_any w)
  have HFB := Lib.hid hb
  obtain ⟨hb1, hb2⟩ := hb
  obtain ⟨a, cap, rfl⟩ := row_shape hv
  have HV := Lib.hid hv
  clear hv
  by_cases h0 : 50 < gs.length
  · have d0 : decide ((50 : Int) < (gs.length : Int)) = true := decide_eq_true (by omega)
    go_enter Try.func3, Try.ntmps3
    go_wp2_with fail
    refine HAW.out.mono ?_
    rintro e w2 ⟨rfl, hb3⟩
    have B := Lib.hid hb3
    clear hb3
    go_wp2
    go_ret
    exact ⟨rfl, B.out⟩
  have d0 : decide ((50 : Int) < (gs.length : Int)) = false := decide_eq_false (by omega)
  by_cases h1 : 3000 < b
  · have d1 : decide ((3000 : Int) < b) = true := decide_eq_true (by omega)
    go_enter Try.func3, Try.ntmps3
    go_wp2_with fail
    refine HAW.out.mono ?_
    rintro e w2 ⟨rfl, hb3⟩
    have B := Lib.hid hb3
    clear hb3
    go_wp2
    go_ret
    exact ⟨rfl, B.out⟩
  have d1 : decide ((3000 : Int) < b) = false := decide_eq_false (by omega)
  by_cases h2 : b < -3000
  · have d2 : decide (b < (-3000 : Int)) = true := decide_eq_true (by omega)
    go_enter Try.func3, Try.ntmps3
    go_wp2_with fail
    refine HAW.out.mono ?_
    rintro e w2 ⟨rfl, hb3⟩
    have B := Lib.hid hb3
    clear hb3
    go_wp2
    go_ret
    exact ⟨rfl, B.out⟩
  have d2 : decide (b < (-3000 : Int)) = false := decide_eq_false (by omega)
  go_enter Try.func3, Try.ntmps3
  go_wp2
  go_loopg [5] (gs.length + 1) (fun g i wr => ∃ k : Nat, g + k = gs.length + 1 ∧ k ≤ gs.length ∧ i = .int .i64 k ∧ wr = w)
  case atStart => exact ⟨0, by omega, by omega, rfl, rfl⟩
  case round =>
    obtain ⟨k, hgk, hk, rfl, rfl⟩ := hrel
    have HG := Lib.hid hgk
    clear hgk
    by_cases hlt : k < gs.length
    · have hlti : (k : Int) < (gs.length : Int) := by omega
      obtain ⟨x, hx⟩ : ∃ x, gs[k]? = some x := ⟨_, List.getElem?_eq_getElem hlt⟩
      obtain ⟨pb, po, rfl, hf⟩ := int_at HV.out (by omega)
      have c0 := hf k x hx
      clear hf hx
      by_cases hx3 : 3000 < x
      · have d3 : decide ((3000 : Int) < x) = true := decide_eq_true hx3
        go_wp2_with fail
        refine HAW.out.mono ?_
        rintro e w2 ⟨rfl, hb3⟩
        have B := Lib.hid hb3
        clear hb3
        go_wp2
        go_ret
        exact ⟨rfl, B.out⟩
      · have d3 : decide ((3000 : Int) < x) = false := decide_eq_false hx3
        go_wp2
        go_roundg (gk - 1)
        case measure => have := HG.out; omega
        case rel => exact ⟨k + 1, by have := HG.out; omega, by omega, by go_num, rfl⟩
    · obtain rfl : k = gs.length := by omega
      have hkl : ((gs.length : Int) < (gs.length : Int)) = False := by simp
      have HC := Lib.hid (shares_any b _ gs wr HV.out HFB.out (by omega))
      go_wp2_with fail
      refine HC.out.mono ?_
      rintro e w2 ⟨hb3, hres⟩
      have HR := Lib.hid (rshares_any b _ gs w2 (HV.out.up hb3) HFB.out (by omega))
      have B2 := Lib.hid hb3
      clear hb3
      rcases hres with ⟨hok, v1, l1, rfl, hs1, hr1⟩ | ⟨hok, v1, rfl, hr1⟩
      · have HOK := Lib.hid hok
        have HS1 := Lib.hid hs1
        have HR1 := Lib.hid hr1
        have HL1 : Hid (l1.length ≤ 1000000) := Lib.hid (by rw [hs1.len]; omega)
        clear hok hs1 hr1
        go_wp2_with fail
        refine HR.out.mono ?_
        rintro e w3 ⟨hb3, hres⟩
        rcases hres with ⟨-, v2, l2, rfl, hs2, hr2⟩ | ⟨hno, -⟩
        · obtain rfl : l1 = l2 := HS1.out.one hs2
          have HR1' := Lib.hid (HR1.out.up hb3)
          have HI := Lib.hid (ints_any v1 v2 l1 l1 w3 HR1'.out hr2 HL1.out)
          rw [eqI_self] at HI
          have B3 := Lib.hid (B2.out.trans (hb3.mono B2.out.size))
          clear hb3 hs2 hr2
          go_wp2_with fail
          refine HI.out.mono ?_
          rintro e w4 ⟨rfl, hb4⟩
          have B4 := Lib.hid (B3.out.trans (hb4.mono B3.out.size))
          clear hb4
          go_wp2_with fail
          refine (awake_any w4).mono ?_
          rintro e w5 ⟨rfl, hb5⟩
          have B5 := Lib.hid (B4.out.trans (hb5.mono B4.out.size))
          clear hb5
          go_wp2
          go_ret
          exact ⟨rfl, B5.out⟩
        · exact absurd HOK.out hno
      · have HOK := Lib.hid hok
        obtain ⟨a1, cap1, rfl⟩ := row_shape hr1
        clear hok hr1
        go_wp2_with fail
        refine HR.out.mono ?_
        rintro e w3 ⟨hb3, hres⟩
        rcases hres with ⟨hyes, -⟩ | ⟨-, v2, rfl, -⟩
        · exact absurd hyes HOK.out
        · have B3 := Lib.hid (B2.out.trans (hb3.mono B2.out.size))
          clear hb3
          go_wp2_with fail
          refine (awake_any w3).mono ?_
          rintro e w5 ⟨rfl, hb5⟩
          have B5 := Lib.hid (B3.out.trans (hb5.mono B3.out.size))
          clear hb5
          go_wp2
          go_ret
          exact ⟨rfl, B5.out⟩
end Go.Proofs.Ytcmkhppkdbdfdaa
