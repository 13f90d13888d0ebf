/- The law AdjustEvens. -/
import Derived.Test.YtcmkhppkdbdfdaaAwake9
import Derived.Test.YtcmkhppkdbdfdaaEvM
namespace Go.Proofs.Ytcmkhppkdbdfdaa
open Go.RowKit Sh

theorem sum_take_succ {l : List Int} {k : Nat} {x : Int} (h : l[k]? = some x) : (l.take (k + 1)).sum = (l.take k).sum + x := by
  rw [List.take_add_one, h, List.sum_append]; simp

set_option maxRecDepth 100000 in
set_option maxHeartbeats 4000000 in
theorem adjustEvens_any (b : Int) (v : Value) (gs : List Int) (w : World) (hv : Row w v (ints gs)) (hb : fits b) :
    Calls Try.prog 5 #[.int .i64 b, v] w fun e w' => e = .returned (.bool true) ∧ Below w.heap.size w w' := by
  have HAW := Lib.hid (awake_any w)
  have HFB := Lib.hid hb
  obtain ⟨hb1, hb2⟩ := hb
  obtain ⟨a, cap, rfl⟩ := row_shape hv
  have HV := Lib.hid hv
  clear hv
  by_cases h0 : 50 < gs.length
  · have d0 : decide ((50 : Int) < (gs.length : Int)) = true := decide_eq_true (by omega)
    go_enter Try.func5, Try.ntmps5
    go_wp2_with fail
    refine HAW.out.mono ?_
    rintro e w2 ⟨rfl, hb3⟩
    have B := Lib.hid hb3
    clear hb3
    go_wp2
    go_ret
    exact ⟨rfl, B.out⟩
  have d0 : decide ((50 : Int) < (gs.length : Int)) = false := decide_eq_false (by omega)
  by_cases h1 : 3000 < b
  · have d1 : decide ((3000 : Int) < b) = true := decide_eq_true (by omega)
    go_enter Try.func5, Try.ntmps5
    go_wp2_with fail
    refine HAW.out.mono ?_
    rintro e w2 ⟨rfl, hb3⟩
    have B := Lib.hid hb3
    clear hb3
    go_wp2
    go_ret
    exact ⟨rfl, B.out⟩
  have d1 : decide ((3000 : Int) < b) = false := decide_eq_false (by omega)
  by_cases h2 : b < -3000
  · have d2 : decide (b < (-3000 : Int)) = true := decide_eq_true (by omega)
    go_enter Try.func5, Try.ntmps5
    go_wp2_with fail
    refine HAW.out.mono ?_
    rintro e w2 ⟨rfl, hb3⟩
    have B := Lib.hid hb3
    clear hb3
    go_wp2
    go_ret
    exact ⟨rfl, B.out⟩
  have d2 : decide (b < (-3000 : Int)) = false := decide_eq_false (by omega)
  have HC := Lib.hid (shares_any b _ gs w HV.out HFB.out (by omega))
  go_enter Try.func5, Try.ntmps5
  go_wp2_with fail
  refine HC.out.mono ?_
  rintro e w2 ⟨hb3, hres⟩
  have HV2 := Lib.hid (HV.out.up hb3)
  have B2 := Lib.hid hb3
  clear hb3
  rcases hres with ⟨hok, v1, l, rfl, hs1, hr1⟩ | ⟨hok, v1, rfl, hr1⟩
  · have HEV := Lib.hid (ev_of hok (by omega) hs1)
    have HGD := Lib.hid hok.2.1
    have HL := Lib.hid hs1.len
    obtain ⟨a1, cap1, rfl⟩ := row_shape hr1
    have HR1 := Lib.hid hr1
    clear hok hs1 hr1
    rw [HL.out] at HR1 ⊢
    have dl : ((gs.length : Int) != (gs.length : Int)) = false := by simp
    go_wp2
    go_loopg [7, 8] (gs.length + 1) (fun g vs i wr => ∃ k : Nat, g + k = gs.length + 1 ∧ k ≤ gs.length ∧ i = .int .i64 k ∧ vs = .int .i64 (l.take k).sum ∧ Below w2.heap.size w2 wr)
    case atStart => exact ⟨0, by omega, by omega, rfl, by simp, Below.refl _ _⟩
    case round =>
      obtain ⟨i, hgi, hi, rfl, rfl, hb⟩ := hrel
      obtain ⟨G1, rfl⟩ : ∃ G1, G1 = gk := ⟨_, rfl⟩
      have HG1 := Lib.hid hgi
      have HB := Lib.hid hb
      clear hgi hb
      by_cases hlt : i < gs.length
      · have hlti : (i : Int) < (gs.length : Int) := by omega
        obtain ⟨x, hx⟩ : ∃ x, l[i]? = some x := ⟨_, List.getElem?_eq_getElem (by have := HL.out; omega)⟩
        obtain ⟨gx, hgx⟩ : ∃ gx, gs[i]? = some gx := ⟨_, List.getElem?_eq_getElem hlt⟩
        obtain ⟨pb, po, rfl, hf⟩ := int_at HR1.out (by have := HL.out; omega)
        obtain ⟨qb, qo, rfl, hq⟩ := int_at HV2.out (by omega)
        have HF := Lib.hid hf
        have HX := Lib.hid hx
        have HGX := Lib.hid hgx
        have HCX := Lib.hid (hf i x hx)
        have HCG := Lib.hid (hq i gx hgx)
        obtain ⟨s, hs⟩ : ∃ s, (l.take i).sum = s := ⟨_, rfl⟩
        have hsb := HEV.out.part i
        have hsb2 := HEV.out.part (i + 1)
        rw [sum_take_succ hx] at hsb2
        rw [hs] at hsb hsb2 ⊢
        have hxb := HEV.out.small i x hx
        have hgxb := HGD.out gx (List.mem_of_getElem? hgx)
        have HSS := Lib.hid (show (l.take (i + 1)).sum = s + x by rw [sum_take_succ hx, hs])
        clear hf hq hx hgx hs
        have c0 := (HB.out.cell (lt_of_cell HCX.out)).trans HCX.out
        go_wp2
        clear c0
        go_loopg [9] (gs.length + 1) (fun g i wr => ∃ k : Nat, g + k = gs.length + 1 ∧ k ≤ gs.length ∧ i = .int .i64 k ∧ Below w2.heap.size w2 wr)
        case atStart => exact ⟨0, by omega, by omega, rfl, HB.out⟩
        case round =>
          obtain ⟨k, hgk, hk, rfl, hb⟩ := hrel
          have HG := Lib.hid hgk
          have HB3 := Lib.hid hb
          clear hgk hb
          have c0 := (HB3.out.cell (lt_of_cell HCX.out)).trans HCX.out
          have c1 := (HB3.out.cell (lt_of_cell HCG.out)).trans HCG.out
          by_cases hkt : k < gs.length
          · have hkti : (k : Int) < (gs.length : Int) := by omega
            obtain ⟨y, hy⟩ : ∃ y, l[k]? = some y := ⟨_, List.getElem?_eq_getElem (by have := HL.out; omega)⟩
            have c2 := (HB3.out.cell (lt_of_cell (HF.out k y hy))).trans (HF.out k y hy)
            have hyb := HEV.out.small k y hy
            have HMO := Lib.hid (fun h => HEV.out.more h i k x y HX.out hy)
            have HLE := Lib.hid (fun h => HEV.out.less h i k x y gx HX.out hy HGX.out)
            clear hy
            by_cases hbn : b < 0
            · have e0 : decide ((0 : Int) ≤ b) = false := decide_eq_false (by omega)
              have e1 : decide (b < (0 : Int)) = true := decide_eq_true hbn
              have hle := HLE.out hbn
              have e2 : decide ((0 : Int) < x) = false := decide_eq_false (by omega)
              by_cases hxy : y + 1 < x
              · have e3 : decide (y + 1 < x) = true := decide_eq_true hxy
                have e4 : (x != -gx) = false := by rw [hle.2 hxy]; simp
                clear hle
                go_wp2
                go_quiet (fail)
                go_wp2
                go_roundg (gk - 1)
                case measure => have := HG.out; omega
                case rel => exact ⟨k + 1, by have := HG.out; omega, by omega, by go_num, ⟨HB3.out.os, HB3.out.tape, HB3.out.output, HB3.out.size, HB3.out.block⟩⟩
              · have e3 : decide (y + 1 < x) = false := decide_eq_false hxy
                clear hle
                go_wp2
                go_quiet (fail)
                go_wp2
                go_roundg (gk - 1)
                case measure => have := HG.out; omega
                case rel => exact ⟨k + 1, by have := HG.out; omega, by omega, by go_num, ⟨HB3.out.os, HB3.out.tape, HB3.out.output, HB3.out.size, HB3.out.block⟩⟩
            · have e0 : decide ((0 : Int) ≤ b) = true := decide_eq_true (by omega)
              have e1 : decide (b < (0 : Int)) = false := decide_eq_false hbn
              have hmo := HMO.out (by omega)
              have e2 : decide (x < (0 : Int)) = false := decide_eq_false (by omega)
              have e3 : decide (y + 1 < x) = false := decide_eq_false (by omega)
              clear hmo
              go_wp2
              go_quiet (fail)
              go_wp2
              go_roundg (gk - 1)
              case measure => have := HG.out; omega
              case rel => exact ⟨k + 1, by have := HG.out; omega, by omega, by go_num, ⟨HB3.out.os, HB3.out.tape, HB3.out.output, HB3.out.size, HB3.out.block⟩⟩
          · obtain rfl : k = gs.length := by omega
            have hkl : ((gs.length : Int) < (gs.length : Int)) = False := by simp
            have HCAN := Lib.hid (HEV.out.can i x gx HX.out HGX.out)
            by_cases hxn : x < 0
            · have e2 : decide (x < (0 : Int)) = true := decide_eq_true hxn
              have e3 : decide (gx < -x) = false := decide_eq_false (by have := HCAN.out hxn; omega)
              go_wp2
              go_quiet (fail)
              go_wp2
              go_roundg (G1 - 1)
              case measure => have := HG1.out; omega
              case rel => exact ⟨i + 1, by have := HG1.out; omega, by omega, by go_num, by rw [HSS.out], ⟨HB3.out.os, HB3.out.tape, HB3.out.output, HB3.out.size, HB3.out.block⟩⟩
            · have e2 : decide (x < (0 : Int)) = false := decide_eq_false hxn
              go_wp2
              go_quiet (fail)
              go_wp2
              go_roundg (G1 - 1)
              case measure => have := HG1.out; omega
              case rel => exact ⟨i + 1, by have := HG1.out; omega, by omega, by go_num, by rw [HSS.out], ⟨HB3.out.os, HB3.out.tape, HB3.out.output, HB3.out.size, HB3.out.block⟩⟩
      · obtain rfl : i = gs.length := by omega
        have hkl : ((gs.length : Int) < (gs.length : Int)) = False := by simp
        have hsum : (l.take gs.length).sum = b := by rw [← HL.out, List.take_length]; exact HEV.out.sum
        rw [hsum]
        clear hsum
        have db : (b == b) = true := by simp
        have B3 := Lib.hid (B2.out.trans (HB.out.mono B2.out.size))
        go_wp2_with fail
        refine (awake_any wr).mono ?_
        rintro e w5 ⟨rfl, hb5⟩
        have B5 := Lib.hid (B3.out.trans (hb5.mono B3.out.size))
        clear hb5
        go_wp2
        go_ret
        exact ⟨rfl, B5.out⟩
  · clear hok hr1
    go_wp2_with fail
    refine (awake_any w2).mono ?_
    rintro e w5 ⟨rfl, hb5⟩
    have B5 := Lib.hid (B2.out.trans (hb5.mono B2.out.size))
    clear hb5
    go_wp2
    go_ret
    exact ⟨rfl, B5.out⟩
end Go.Proofs.Ytcmkhppkdbdfdaa
