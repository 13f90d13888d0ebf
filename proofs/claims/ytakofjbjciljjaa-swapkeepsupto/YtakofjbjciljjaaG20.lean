/- Texts of this seat, 3 in one file. -/
import Derived.Test.YtakofjbjciljjaaG05
import Derived.Test.YtakofjbjciljjaaG08
import Derived.Test.YtakofjbjciljjaaG18
import Derived.Test.YtakofjbjciljjaaG19
import Derived.Test.YtakofjbjciljjaaG06
/- May a tree be? The document's walk. -/
namespace Go.Proofs.Ytakofjbjciljjaa
open Go.RowKit

theorem well_no {k : Int} {r : R} {id : Int} {n : Nat} (h : ¬ (mayB r = true ∧ ((k = 1 ∧ (0 ≤ id ∧ id ≤ 2147483647) ∧ n = 0) ∨ ((k = 2 ∨ k = 3) ∧ id = 0 ∧ 2 ≤ n)))) : wellB k r id n = false := by
  cases e : wellB k r id n with
  | false => rfl
  | true =>
    refine absurd ?_ h
    simpa [wellB] using e
theorem well_yes {k : Int} {r : R} {id : Int} {n : Nat} (h : mayB r = true ∧ ((k = 1 ∧ (0 ≤ id ∧ id ≤ 2147483647) ∧ n = 0) ∨ ((k = 2 ∨ k = 3) ∧ id = 0 ∧ 2 ≤ n))) : wellB k r id n = true := by
  simpa [wellB] using h

/-- No number twice among the first ones. -/
def apartI (ms : List Int) (i : Nat) : Prop := ∀ (a b : Nat) (x y : Int), a < b → b < i → ms[a]? = some x → ms[b]? = some y → y ≠ x
theorem apart_nodup (ms : List Int) : apartI ms ms.length ↔ ms.Nodup := by
  unfold List.Nodup
  rw [List.pairwise_iff_getElem]
  constructor
  · intro h i j hi hj hij e
    exact h i j _ _ hij hj (List.getElem?_eq_getElem hi) (List.getElem?_eq_getElem hj) e.symm
  · intro h a b x y hab hb hx hy e
    obtain ⟨ha', rfl⟩ := List.getElem?_eq_some_iff.1 hx
    obtain ⟨hb', rfl⟩ := List.getElem?_eq_some_iff.1 hy
    exact h a b ha' hb' hab e.symm

def rmayT (t : T) : Bool := (preT t).all wellT && decide ((((preT t).filter leafB).map T.id).Nodup)
theorem rmay_no1 {t u : T} {k : Nat} (h : (preT t)[k]? = some u) (hw : wellT u = false) : rmayT t = false := by
  have : (preT t).all wellT = false := by
    cases e : (preT t).all wellT with
    | false => rfl
    | true => rw [List.all_eq_true.1 e u (List.mem_of_getElem? h)] at hw; cases hw
  rw [rmayT, this]; rfl

set_option maxRecDepth 100000 in
set_option maxHeartbeats 4000000 in
theorem rmayOne_any (t : T) (c : C) (w : World) (hm : sz t ≤ 20000) (hi : Is w c t) : Calls Try.prog 41 #[cval c] w fun e w' => e = .returned (.bool (rmayT t)) ∧ Below w.heap.size w w' := by
  have B1 : Hid (Below w.heap.size w (w.alloc (cbox c))) := (Below.refl _ _).alloc (Nat.le_refl _) _
  have H := Lib.hid (rall_any w (sz t) t c (w.alloc (cbox c)) (Nat.le_refl _) (by omega) hi B1.out)
  have HI := Lib.hid hi
  have HM := Lib.hid hm
  clear hi hm
  go_enter Try.func41, Try.ntmps41
  go_wp2_with fail
  refine H.out.mono ?_
  rintro e w2 ⟨vl, al, rfl, howl, htl, hb2⟩
  have HT := Lib.hid htl
  have hall : al.length ≤ 20000 := by rw [htl.1, preT_len]; exact HM.out
  have HROW := Lib.hid howl.row
  obtain ⟨aa, capl, rfl⟩ := howl.row.shape
  have HBX := Lib.hid hb2
  have HB2 := Lib.hid (below_one hb2)
  clear hb2 howl htl
  have d20 : decide (20000 < (al.length : Int)) = false := decide_eq_false (by omega)
  have d20' : decide (20000 < al.length) = false := decide_eq_false (by omega)
  go_wp2
  go_loopg [15] (al.length + 1) (fun g i wr => ∃ (k : Nat), g + k = al.length + 1 ∧ k ≤ al.length ∧ i = .int .i64 k ∧ (∀ (j : Nat) (u : T), j < k → (preT t)[j]? = some u → wellT u = true) ∧ Below w2.heap.size w2 wr)
  case atStart => exact ⟨0, by omega, by omega, rfl, fun j u hj => by omega, Below.refl _ _⟩
  case round =>
    obtain ⟨k, hg, hk, rfl, hwell, hb⟩ := hrel
    have HG := Lib.hid hg
    have HW := Lib.hid hwell
    have HB := Lib.hid hb
    clear hg hwell hb
    by_cases hlt : k < al.length
    · obtain ⟨x, u, hx, hu, hxu⟩ := HT.out.at hlt
      obtain ⟨b, o, rfl, hf⟩ := HROW.out.place (by omega)
      have HX := Lib.hid (hf k x hx)
      clear hf
      have HU := Lib.hid hu
      have hfine := hxu.fine
      have hwe := well_is hxu
      obtain ⟨xk, xr, xid, xa, xn, xcap⟩ := x
      have hk0 := hfine.1
      have hn0 := hfine.2.2.2
      simp only at hk0 hn0
      have HMY := Lib.hid (rmay_any xr wr hfine.2.1)
      have HWE : Hid (wellB xk xr xid xn = wellT u) := hwe
      clear hxu hx hu hfine hwe
      have HBW := Lib.hid (HB2.out.trans (HB.out.mono HB2.out.size))
      obtain ⟨c0, c1, c2, c3, c4, c5, c6⟩ := HX.out.up HB.out
      cases hmy : mayB xr with
      | false =>
        rw [hmy] at HMY
        have HNO := Lib.hid (rmay_no1 HU.out (HWE.out.symm.trans (well_no (by rw [hmy]; simp))))
        clear hmy
        go_wp2_with fail
        refine HMY.out.mono ?_
        rintro e w3 ⟨rfl, hb3⟩
        have HB3 := Lib.hid (HBW.out.trans (hb3.mono HBW.out.size))
        clear hb3
        go_wp2
        go_ret
        exact ⟨by rw [HNO.out]; rfl, HB3.out⟩
      | true =>
        rw [hmy] at HMY
        by_cases h1 : xk < 1
        · have d1 : decide (xk < 1) = true := decide_eq_true h1
          have HNO := Lib.hid (rmay_no1 HU.out (HWE.out.symm.trans (well_no (by omega))))
          clear hmy
          go_wp2_with fail
          refine HMY.out.mono ?_
          rintro e w3 ⟨rfl, hb3⟩
          have HB3 := Lib.hid (HBW.out.trans (hb3.mono HBW.out.size))
          obtain ⟨e0, e1, e2, e3, e4, e5, e6⟩ := (HX.out.up HB.out).up hb3
          clear hb3 c0 c1 c2 c3 c4 c5 c6
          go_wp2
          go_ret
          exact ⟨by rw [HNO.out]; rfl, HB3.out⟩
        have d1 : decide (xk < 1) = false := decide_eq_false h1
        by_cases h3 : 3 < xk
        · have d3 : decide (3 < xk) = true := decide_eq_true h3
          have HNO := Lib.hid (rmay_no1 HU.out (HWE.out.symm.trans (well_no (by omega))))
          clear hmy
          go_wp2_with fail
          refine HMY.out.mono ?_
          rintro e w3 ⟨rfl, hb3⟩
          have HB3 := Lib.hid (HBW.out.trans (hb3.mono HBW.out.size))
          obtain ⟨e0, e1, e2, e3, e4, e5, e6⟩ := (HX.out.up HB.out).up hb3
          clear hb3 c0 c1 c2 c3 c4 c5 c6
          go_wp2
          go_ret
          exact ⟨by rw [HNO.out]; rfl, HB3.out⟩
        have d3 : decide (3 < xk) = false := decide_eq_false h3
        by_cases hk1 : xk = 1
        · have f1 : (xk == 1) = true := by rw [beq_iff_eq]; exact hk1
          have f2 : decide (1 < xk) = false := decide_eq_false (by omega)
          by_cases hn : 0 < xn
          · have g1 : decide (0 < (xn : Int)) = true := decide_eq_true (by omega)
            have g2 : decide (0 < xn) = true := decide_eq_true hn
            have HNO := Lib.hid (rmay_no1 HU.out (HWE.out.symm.trans (well_no (by omega))))
            clear hmy
            go_wp2_with fail
            refine HMY.out.mono ?_
            rintro e w3 ⟨rfl, hb3⟩
            have HB3 := Lib.hid (HBW.out.trans (hb3.mono HBW.out.size))
            obtain ⟨e0, e1, e2, e3, e4, e5, e6⟩ := (HX.out.up HB.out).up hb3
            clear hb3 c0 c1 c2 c3 c4 c5 c6
            go_wp2
            go_ret
            exact ⟨by rw [HNO.out]; rfl, HB3.out⟩
          have g1 : decide (0 < (xn : Int)) = false := decide_eq_false (by omega)
          have g2 : decide (0 < xn) = false := decide_eq_false hn
          by_cases hi0 : xid < 0
          · have i1 : decide (xid < 0) = true := decide_eq_true hi0
            have HNO := Lib.hid (rmay_no1 HU.out (HWE.out.symm.trans (well_no (by omega))))
            clear hmy
            go_wp2_with fail
            refine HMY.out.mono ?_
            rintro e w3 ⟨rfl, hb3⟩
            have HB3 := Lib.hid (HBW.out.trans (hb3.mono HBW.out.size))
            obtain ⟨e0, e1, e2, e3, e4, e5, e6⟩ := (HX.out.up HB.out).up hb3
            clear hb3 c0 c1 c2 c3 c4 c5 c6
            go_wp2
            go_ret
            exact ⟨by rw [HNO.out]; rfl, HB3.out⟩
          have i1 : decide (xid < 0) = false := decide_eq_false hi0
          by_cases him : 2147483647 < xid
          · have i2 : decide (2147483647 < xid) = true := decide_eq_true him
            have HNO := Lib.hid (rmay_no1 HU.out (HWE.out.symm.trans (well_no (by omega))))
            clear hmy
            go_wp2_with fail
            refine HMY.out.mono ?_
            rintro e w3 ⟨rfl, hb3⟩
            have HB3 := Lib.hid (HBW.out.trans (hb3.mono HBW.out.size))
            obtain ⟨e0, e1, e2, e3, e4, e5, e6⟩ := (HX.out.up HB.out).up hb3
            clear hb3 c0 c1 c2 c3 c4 c5 c6
            go_wp2
            go_ret
            exact ⟨by rw [HNO.out]; rfl, HB3.out⟩
          have i2 : decide (2147483647 < xid) = false := decide_eq_false him
          have HYES := Lib.hid (HWE.out.symm.trans (well_yes ⟨hmy, by omega⟩))
          clear hmy
          go_wp2_with fail
          refine HMY.out.mono ?_
          rintro e w3 ⟨rfl, hb3⟩
          have HB3 := Lib.hid (HB.out.trans (hb3.mono HB.out.size))
          obtain ⟨e0, e1, e2, e3, e4, e5, e6⟩ := (HX.out.up HB.out).up hb3
          clear hb3 c0 c1 c2 c3 c4 c5 c6
          go_wp2
          go_roundg (gk - 1)
          case measure => have := HG.out; omega
          case rel =>
            refine ⟨k + 1, by have := HG.out; omega, by omega, by go_num, fun j y hj hy => ?_, HB3.out⟩
            rcases Nat.lt_or_ge j k with h | h
            · exact HW.out j y h hy
            · obtain rfl : j = k := by omega
              rw [HU.out] at hy; cases hy
              exact HYES.out
        · have f1 : (xk == 1) = false := by rw [beq_eq_false_iff_ne]; exact hk1
          have f2 : decide (1 < xk) = true := decide_eq_true (by omega)
          by_cases hn : xn < 2
          · have g1 : decide ((xn : Int) < 2) = true := decide_eq_true (by omega)
            have g2 : decide (xn < 2) = true := decide_eq_true hn
            have HNO := Lib.hid (rmay_no1 HU.out (HWE.out.symm.trans (well_no (by omega))))
            clear hmy
            go_wp2_with fail
            refine HMY.out.mono ?_
            rintro e w3 ⟨rfl, hb3⟩
            have HB3 := Lib.hid (HBW.out.trans (hb3.mono HBW.out.size))
            obtain ⟨e0, e1, e2, e3, e4, e5, e6⟩ := (HX.out.up HB.out).up hb3
            clear hb3 c0 c1 c2 c3 c4 c5 c6
            go_wp2
            go_ret
            exact ⟨by rw [HNO.out]; rfl, HB3.out⟩
          have g1 : decide ((xn : Int) < 2) = false := decide_eq_false (by omega)
          have g2 : decide (xn < 2) = false := decide_eq_false hn
          by_cases hi0 : xid = 0
          · have i1 : (xid != 0) = false := by rw [hi0]; rfl
            have i2 : (xid == 0) = true := by rw [hi0]; rfl
            have HYES := Lib.hid (HWE.out.symm.trans (well_yes ⟨hmy, by omega⟩))
            clear hmy
            go_wp2_with fail
            refine HMY.out.mono ?_
            rintro e w3 ⟨rfl, hb3⟩
            have HB3 := Lib.hid (HB.out.trans (hb3.mono HB.out.size))
            obtain ⟨e0, e1, e2, e3, e4, e5, e6⟩ := (HX.out.up HB.out).up hb3
            clear hb3 c0 c1 c2 c3 c4 c5 c6
            go_wp2
            go_roundg (gk - 1)
            case measure => have := HG.out; omega
            case rel =>
              refine ⟨k + 1, by have := HG.out; omega, by omega, by go_num, fun j y hj hy => ?_, HB3.out⟩
              rcases Nat.lt_or_ge j k with h | h
              · exact HW.out j y h hy
              · obtain rfl : j = k := by omega
                rw [HU.out] at hy; cases hy
                exact HYES.out
          have i1 : (xid != 0) = true := by simpa using hi0
          have i2 : (xid == 0) = false := by simpa using hi0
          have HNO := Lib.hid (rmay_no1 HU.out (HWE.out.symm.trans (well_no (by omega))))
          clear hmy
          go_wp2_with fail
          refine HMY.out.mono ?_
          rintro e w3 ⟨rfl, hb3⟩
          have HB3 := Lib.hid (HBW.out.trans (hb3.mono HBW.out.size))
          obtain ⟨e0, e1, e2, e3, e4, e5, e6⟩ := (HX.out.up HB.out).up hb3
          clear hb3 c0 c1 c2 c3 c4 c5 c6
          go_wp2
          go_ret
          exact ⟨by rw [HNO.out]; rfl, HB3.out⟩
    · obtain rfl : k = al.length := by omega
      have hkl : ((al.length : Int) < (al.length : Int)) = False := by simp
      have HWL : Hid ((preT t).all wellT = true) := Lib.hid (by
        rw [List.all_eq_true]
        intro u hu
        obtain ⟨j, hj, rfl⟩ := List.getElem_of_mem hu
        exact HW.out j _ (by rw [HT.out.1]; exact hj) (List.getElem?_eq_getElem hj))
      have HBW := Lib.hid (HB2.out.trans (HB.out.mono HB2.out.size))
      obtain ⟨q0, q1, q2, q3, q4, q5, q6⟩ := box_at (HBX.out.trans (HB.out.mono HBX.out.size))
      have HK := Lib.hid (rleaves_any w t c wr (by have := HM.out; omega) HI.out HBW.out)
      have hres : rmayT t = decide ((((preT t).filter leafB).map T.id).Nodup) := by rw [rmayT, HWL.out]; rfl
      have HRES := Lib.hid hres
      have HLL := Lib.hid (show ((preT t).filter leafB).length ≤ 20000 by have := List.length_filter_le leafB (preT t); rw [preT_len] at this; have := HM.out; omega)
      clear hres
      generalize (preT t).filter leafB = ls at HK HRES HLL
      go_wp2_with fail
      refine HK.out.mono ?_
      rintro e w3 ⟨v3, lv, rfl, how3, ht3, hb3⟩
      have HT3 := Lib.hid ht3
      have HROW3 := Lib.hid how3.row
      obtain ⟨a3, cap3, rfl⟩ := how3.row.shape
      have HB3 := Lib.hid (HBW.out.trans (hb3.mono HBW.out.size))
      have hl3 : lv.length ≤ 20000 := by rw [ht3.1]; exact HLL.out
      have HIDS : Hid (∀ (j : Nat) (x : C), lv[j]? = some x → (ls.map T.id)[j]? = some x.id) := fun j x hx => by
        have hj : j < ls.length := by
          rw [← ht3.1]; exact (List.getElem?_eq_some_iff.1 hx).1
        have h1 := List.getElem?_eq_getElem hj
        have h2 := (ht3.2 j x _ hx h1).split.2.2.1
        rw [List.getElem?_map, h1, Option.map_some, h2]
      clear how3 ht3 hb3 q0 q1 q2 q3 q4 q5 q6
      go_wp2
      go_loopg [102] (lv.length + 1) (fun g i wr => ∃ (k : Nat), g + k = lv.length + 1 ∧ k ≤ lv.length ∧ i = .int .i64 k ∧ apartI (ls.map T.id) k ∧ Below w3.heap.size w3 wr)
      case atStart => exact ⟨0, by omega, by omega, rfl, fun a b x y hab hb => by omega, Below.refl _ _⟩
      case round =>
        obtain ⟨i, hg, hi', rfl, hap, hb⟩ := hrel
        have HG2 := Lib.hid hg
        have HAP := Lib.hid hap
        have HB4 := Lib.hid hb
        clear hg hap hb
        by_cases hlt2 : i < lv.length
        · have hlti : (i : Int) < (lv.length : Int) := by omega
          obtain ⟨b, o, rfl, hf⟩ := HROW3.out.place (by omega)
          obtain ⟨x, hx⟩ : ∃ x, lv[i]? = some x := ⟨_, List.getElem?_eq_getElem hlt2⟩
          have HF := Lib.hid hf
          have HX := Lib.hid hx
          clear hf hx
          obtain ⟨gko, hgko⟩ : ∃ n, n = gk := ⟨_, rfl⟩
          have HGK := Lib.hid hgko
          clear hgko
          go_wp2
          go_loopg [7] (i + 1) (fun g q wr => ∃ (k : Nat), g + k = i + 1 ∧ k ≤ i ∧ q = .int .i64 k ∧ (∀ (a : Nat) (y : C), a < k → lv[a]? = some y → x.id ≠ y.id) ∧ Below w3.heap.size w3 wr)
          case atStart => exact ⟨0, by omega, by omega, rfl, fun a y ha => by omega, HB4.out⟩
          case round =>
            obtain ⟨q, hg, hq, rfl, hno, hb⟩ := hrel
            have HG3 := Lib.hid hg
            have HNO := Lib.hid hno
            have HB5 := Lib.hid hb
            clear hg hno hb
            by_cases hlt3 : q < i
            · have hqi : (q : Int) < (i : Int) := by omega
              have hqi' : decide (q < i) = true := decide_eq_true hlt3
              obtain ⟨y, hy⟩ : ∃ y, lv[q]? = some y := ⟨_, List.getElem?_eq_getElem (by omega)⟩
              have c5 := ((HF.out i x HX.out).up HB5.out).2.2.2.2.2.1
              have e5 := ((HF.out q y hy).up HB5.out).2.2.2.2.2.1
              have hql : (q : Int) < (lv.length : Int) := by omega
              have HY := Lib.hid hy
              clear hy
              by_cases hxy : x.id = y.id
              · have d1 : (x.id == y.id) = true := by simpa using hxy
                have HV : Hid (rmayT t = false) := Lib.hid (by
                  rw [HRES.out, decide_eq_false]
                  intro hnd
                  have := (apart_nodup (ls.map T.id)).2 hnd
                  exact this q i _ _ hlt3 (by rw [List.length_map, ← HT3.out.1]; exact hlt2) (HIDS.out q y HY.out) (HIDS.out i x HX.out) hxy)
                go_wp2
                go_quiet (fail)
                go_wp2
                go_ret
                exact ⟨by rw [HV.out]; rfl, HB3.out.trans (Below.mono ⟨HB5.out.os, HB5.out.tape, HB5.out.output, HB5.out.size, HB5.out.block⟩ HB3.out.size)⟩
              · have d1 : (x.id == y.id) = false := by simpa using hxy
                go_wp2
                go_quiet (fail)
                go_wp2
                go_roundg (gk - 1)
                case measure => have := HG3.out; omega
                case rel =>
                  refine ⟨q + 1, by have := HG3.out; omega, by omega, by go_num, fun a z ha hz => ?_, ⟨HB5.out.os, HB5.out.tape, HB5.out.output, HB5.out.size, HB5.out.block⟩⟩
                  rcases Nat.lt_or_ge a q with h | h
                  · exact HNO.out a z h hz
                  · obtain rfl : a = q := by omega
                    rw [HY.out] at hz; cases hz
                    exact hxy
            · obtain rfl : q = i := by omega
              have hkl2 : ((q : Int) < (q : Int)) = False := by simp
              go_wp2
              go_roundg (gko - 1)
              case measure => have := HG2.out; have := HGK.out; omega
              case rel =>
                refine ⟨q + 1, by have := HG2.out; have := HGK.out; omega, by omega, by go_num, fun a b' z z' hab hb' hz hz' => ?_, HB5.out⟩
                rcases Nat.lt_or_ge b' q with h | h
                · exact HAP.out a b' z z' hab h hz hz'
                · obtain rfl : b' = q := by omega
                  rw [HIDS.out b' x HX.out] at hz'; cases hz'
                  obtain ⟨y, hy⟩ : ∃ y, lv[a]? = some y := ⟨_, List.getElem?_eq_getElem (by omega)⟩
                  rw [HIDS.out a y hy] at hz; cases hz
                  exact HNO.out a y hab hy
        · obtain rfl : i = lv.length := by omega
          have hkl2 : ((lv.length : Int) < (lv.length : Int)) = False := by simp
          have HV : Hid (rmayT t = true) := Lib.hid (by
            rw [HRES.out, decide_eq_true]
            refine (apart_nodup (ls.map T.id)).1 ?_
            rw [List.length_map, ← HT3.out.1]; exact HAP.out)
          go_wp2
          go_ret
          exact ⟨by rw [HV.out]; rfl, HB3.out.trans (HB4.out.mono HB3.out.size)⟩
end Go.Proofs.Ytakofjbjciljjaa
/- The document's answer: does a tree tile, its lines, and which cell doesn't. -/
namespace Go.Proofs.Ytakofjbjciljjaa
open Go.RowKit

theorem well_kind {t : T} (h : wellT t = true) : t.k = 1 ∨ t.k = 2 ∨ t.k = 3 := by
  unfold wellT wellB at h
  simp only [Bool.and_eq_true, Bool.or_eq_true, decide_eq_true_eq] at h
  omega
theorem rmay_well {t u : T} (h : rmayT t = true) (hu : u ∈ preT t) : wellT u = true := by
  unfold rmayT at h
  rw [Bool.and_eq_true] at h
  exact List.all_eq_true.1 h.1 u hu
theorem cutLines_len (r : R) (ax : Int) (ms : List Int) (b : Bool) : (cutLines r ax ms b).length ≤ ms.length := by
  cases b with
  | false => simp [cutLines]
  | true => simp only [cutLines]; split <;> rw [linesL_length] <;> omega
theorem linesT_len (t : T) : (linesT t).length ≤ t.kids.length := by
  unfold linesT
  split
  · simp
  · have := cutLines_len t.r (axT t) (sizesT t) true
    rw [sizes_len] at this
    exact this
def allLines (l : List T) : List R := l.flatMap linesT
theorem allLines_step {l : List T} {k : Nat} {u : T} (h : l[k]? = some u) : allLines (l.take (k + 1)) = allLines (l.take k) ++ linesT u := by
  unfold allLines; rw [List.take_add_one, h]; simp
mutual
theorem pre_kids : ∀ (t u : T), u ∈ preT t → u.kids.length ≤ sz t
  | .node k r i l, u, h => by
    rw [preT] at h
    rw [sz]
    rcases List.mem_cons.1 h with rfl | h
    · have := szL_len l; show l.length ≤ _; omega
    · have := preL_kids l u h; omega
theorem preL_kids : ∀ (l : List T) (u : T), u ∈ preL l → u.kids.length ≤ szL l
  | [], u, h => by rw [preL] at h; cases h
  | t :: l, u, h => by
    rw [preL] at h
    rw [szL]
    rcases List.mem_append.1 h with h | h
    · have := pre_kids t u h; omega
    · have := preL_kids l u h; omega
end
theorem allLines_len {l : List T} {n : Nat} (h : ∀ u ∈ l, u.kids.length ≤ n) : (allLines l).length ≤ l.length * n := by
  induction l with
  | nil => simp [allLines]
  | cons t l ih =>
    have h1 := ih fun u hu => h u (List.mem_cons_of_mem _ hu)
    have h2 := h t (List.mem_cons_self ..)
    have h3 := linesT_len t
    unfold allLines at *
    rw [List.flatMap_cons, List.length_append, List.length_cons, Nat.add_mul]
    omega
theorem Owns.empty (w : World) (base : Nat) (hb : base ≤ w.heap.size) : Owns (w.alloc (.cells #[] 23)) base (.slice (some ⟨w.heap.size, 0, none⟩) 0 0) [] := World.ownsRow_made w #[] 0 hb (Nat.zero_le _) (by simp)

def RCheckSays (t : T) (w : World) (e : Ending) (w' : World) : Prop := ∃ (v : Value) (no pl : Int) (l : List R), e = .returned (.tuple #[v, .int .i64 no, .int .i64 pl]) ∧ RRow w' v l ∧ Below w.heap.size w w' ∧
  ((rmayT t = false ∧ no = 1 ∧ pl = 0 ∧ l = []) ∨ (rmayT t = true ∧ (preT t).all fitB = true ∧ no = 0 ∧ pl = 0 ∧ l = allLines (preT t)) ∨ (rmayT t = true ∧ (preT t).all fitB = false ∧ no = 5 ∧ pl = ((preT t).findIdx fun u => !fitB u : Nat) ∧ l = []))

theorem idx_first {l : List T} {k : Nat} {u : T} (hu : l[k]? = some u) (hf : fitB u = false) (h : ∀ (j : Nat) (x : T), j < k → l[j]? = some x → fitB x = true) : l.findIdx (fun u => !fitB u) = k ∧ l.all fitB = false := by
  have hk := (List.getElem?_eq_some_iff.1 hu).1
  have hue : l[k] = u := (List.getElem?_eq_some_iff.1 hu).2
  constructor
  · rw [List.findIdx_eq hk]
    refine ⟨by rw [hue, hf]; rfl, fun j hj => ?_⟩
    have := h j l[j] hj (List.getElem?_eq_getElem (by omega))
    rw [this]; rfl
  · cases e : l.all fitB with
    | false => rfl
    | true => rw [List.all_eq_true.1 e u (List.mem_of_getElem? hu)] at hf; cases hf

set_option maxRecDepth 100000 in
set_option maxHeartbeats 1600000 in
theorem rcheck_any (t : T) (c : C) (w : World) (hi : Is w c t) (hs : sz t ≤ 20000) : Calls Try.prog 28 #[cval c] w (RCheckSays t w) := by
  have B1 : Hid (Below w.heap.size w ((w.alloc (cbox c)).alloc (.cells #[] 23))) := Lib.hid (((Below.refl _ _).alloc (Nat.le_refl _) _).alloc (by simp) _)
  have C1 := Lib.hid ((cbox_new w c).up ((Below.refl _ _).alloc (Nat.le_refl _) (.cells #[] 23)))
  have HMY := Lib.hid (rmayOne_any t c ((w.alloc (cbox c)).alloc (.cells #[] 23)) (by omega) (hi.up B1.out))
  have HI := Lib.hid hi
  have HS := Lib.hid hs
  clear hi hs
  cases hm : rmayT t with
  | false =>
    rw [hm] at HMY
    have HM := Lib.hid hm
    clear hm
    go_enter Try.func28, Try.ntmps28
    go_wp2_with fail
    refine HMY.out.mono ?_
    rintro e w2 ⟨rfl, hb2⟩
    have HB2 := Lib.hid (B1.out.trans (hb2.mono B1.out.size))
    clear hb2
    go_wp2
    go_ret3
    exact ⟨_, 1, 0, [], rfl, .inl ⟨_, _, rfl, rfl⟩, HB2.out, .inl ⟨HM.out, rfl, rfl, rfl⟩⟩
  | true =>
    rw [hm] at HMY
    have HM := Lib.hid hm
    clear hm
    go_enter Try.func28, Try.ntmps28
    go_wp2_with fail
    refine HMY.out.mono ?_
    rintro e w2 ⟨rfl, hb2⟩
    have HB2 := Lib.hid (B1.out.trans (hb2.mono B1.out.size))
    obtain ⟨c0, c1, c2, c3, c4, c5, c6⟩ := C1.out.up hb2
    simp only [Nat.zero_add] at c1 c2 c3 c4 c5 c6
    clear hb2
    have HAL := Lib.hid (rall_any w2 (sz t) t c w2 (Nat.le_refl _) (by have := HS.out; omega) (HI.out.up HB2.out) (Below.refl _ _))
    go_wp2_with fail
    refine HAL.out.mono ?_
    rintro e w3 ⟨vl, al, rfl, howl, htl, hb3⟩
    have HT := Lib.hid htl
    have hall : al.length ≤ 20000 := by rw [htl.1, preT_len]; exact HS.out
    have HALN : Hid (al.length = (preT t).length) := Lib.hid htl.1
    have HROW := Lib.hid howl.row
    obtain ⟨aa, capl, rfl⟩ := howl.row.shape
    have HB23 := Lib.hid hb3
    have HB3 := Lib.hid (HB2.out.trans (hb3.mono HB2.out.size))
    have HO := Lib.hid (Owns.empty w3 w3.heap.size (Nat.le_refl _))
    have HB4 : Hid (Below w3.heap.size w3 (w3.alloc (.cells #[] 23))) := (Below.refl _ _).alloc (Nat.le_refl _) _
    clear hb3 howl htl c0 c1 c2 c3 c4 c5 c6
    go_wp2
    go_loopg [7, 21] (al.length + 1) (fun g v i wr => ∃ k : Nat, g + k = al.length + 1 ∧ k ≤ al.length ∧ i = .int .i64 k ∧ Owns wr w3.heap.size v (allLines ((preT t).take k)) ∧ (∀ (j : Nat) (u : T), j < k → (preT t)[j]? = some u → fitB u = true) ∧ Below w3.heap.size w3 wr)
    case atStart => exact ⟨0, by omega, by omega, rfl, HO.out, fun j u hj => by omega, HB4.out⟩
    case round =>
      obtain ⟨k, hg, hk, rfl, hown, hfit, hb⟩ := hrel
      have HG := Lib.hid hg
      have HOW := Lib.hid hown
      have HFT := Lib.hid hfit
      have HB := Lib.hid hb
      clear hg hown hfit hb
      by_cases hlt : k < al.length
      · obtain ⟨x, u, hx, hu, hxu⟩ := HT.out.at hlt
        obtain ⟨b, o, rfl, hf⟩ := HROW.out.place (by omega)
        obtain ⟨c0, c1, c2, c3, c4, c5, c6⟩ := (hf k x hx).up HB.out
        have hki : (k : Int) < (al.length : Int) := by omega
        have hmem := List.mem_of_getElem? hu
        have HKL : Hid (u.kids.length ≤ 20000) := Lib.hid (Nat.le_trans (pre_kids t u hmem) HS.out)
        have HON := Lib.hid (rone_any u x wr (hxu.up (HB23.out.trans (HB.out.mono HB23.out.size))) HKL.out (well_kind (rmay_well HM.out hmem)))
        have HU := Lib.hid hu
        have HST := Lib.hid (allLines_step hu)
        have HLE : Hid ((allLines ((preT t).take k)).length ≤ 400000000) := Lib.hid (by
          have h1 := allLines_len (l := (preT t).take k) (n := 20000) (fun u hu => Nat.le_trans (pre_kids t u (List.mem_of_mem_take hu)) HS.out)
          rw [List.length_take] at h1
          have : min k (preT t).length ≤ 20000 := by omega
          have := Nat.mul_le_mul_right 20000 this
          omega)
        clear hf hx hxu hmem hu
        go_wp2_with fail
        refine HON.out.mono ?_
        rintro e w5 ⟨v5, rfl, hr5, hb5⟩
        have HB5 := Lib.hid (HB.out.trans (hb5.mono HB.out.size))
        have HOW5 := Lib.hid (HOW.out.up hb5)
        clear hb5 c0 c1 c2 c3 c4 c5 c6
        cases hfu : fitB u with
        | true =>
          rw [hfu] at hr5
          have HR5 : Hid (RRow w5 v5 (linesT u)) := Lib.hid hr5
          have HFU := Lib.hid hfu
          have HLL : Hid ((linesT u).length ≤ 20000) := Lib.hid (Nat.le_trans (linesT_len u) HKL.out)
          clear hr5 hfu
          go_wp2_with (at_builtin; refine wpList_append_rects rfl _ _ rfl w3.heap.size _ v5 _ (linesT u) rfl HOW5.out rfl HR5.out (by have := HLE.out; have := HLL.out; omega) w3 HB5.out (Nat.le_refl _) ?_)
          intro v6 w6 ho6 hb6 _ _
          have HO6 := Lib.hid ho6
          have HB6 := Lib.hid hb6
          clear ho6 hb6
          go_wp2
          go_roundg (gk - 1)
          case measure => have := HG.out; omega
          case rel =>
            refine ⟨k + 1, by have := HG.out; omega, by omega, by go_num, by rw [HST.out]; exact HO6.out, fun j a hj ha => ?_, HB6.out⟩
            rcases Nat.lt_or_ge j k with h | h
            · exact HFT.out j a h ha
            · obtain rfl : j = k := by omega
              rw [HU.out] at ha
              cases ha
              exact HFU.out
        | false =>
          have HFF := Lib.hid (idx_first HU.out hfu HFT.out)
          have HBE := Lib.hid (HB3.out.trans (HB5.out.mono HB3.out.size))
          clear hfu hr5
          go_wp2
          go_ret3
          exact ⟨_, 5, k, [], rfl, .inl ⟨_, _, rfl, rfl⟩, HBE.out, .inr (.inr ⟨HM.out, HFF.out.2, rfl, by rw [HFF.out.1], rfl⟩)⟩
      · obtain rfl : k = al.length := by omega
        have hkl : ((al.length : Int) < (al.length : Int)) = False := by simp
        have HAF : Hid ((preT t).all fitB = true) := Lib.hid (by
          rw [List.all_eq_true]
          intro u hu
          obtain ⟨j, hj⟩ := List.getElem?_of_mem hu
          exact HFT.out j u (by have := (List.getElem?_eq_some_iff.1 hj).1; have := HALN.out; omega) hj)
        have HOE : Hid (Owns wr w3.heap.size u7 (allLines (preT t))) := Lib.hid (by
          have h := HOW.out
          rw [List.take_of_length_le (by rw [HALN.out]; exact Nat.le_refl _)] at h
          exact h)
        have HBE := Lib.hid (HB3.out.trans (HB.out.mono HB3.out.size))
        go_wp2
        go_ret3
        exact ⟨_, 0, 0, _, rfl, HOE.out.row, HBE.out, .inr (.inl ⟨HM.out, HAF.out, rfl, rfl, rfl⟩)⟩
end Go.Proofs.Ytakofjbjciljjaa
/- The cells of a tree, each ahead of its kids, asked by a closure up to the first that is so: which one it is. -/
namespace Go.Proofs.Ytakofjbjciljjaa
open Go.RowKit

mutual
def firstT {σ : Type} (f : σ → T → Bool × σ) (s : σ) : T → (Nat × Bool) × σ
  | .node k r i l => if (f s (.node k r i l)).1 = true then ((0, true), (f s (.node k r i l)).2) else firstL f (f s (.node k r i l)).2 1 l
def firstL {σ : Type} (f : σ → T → Bool × σ) (s : σ) (n : Nat) : List T → (Nat × Bool) × σ
  | [] => ((n, false), s)
  | t :: l => if (firstT f s t).1.2 = true then ((n + (firstT f s t).1.1, true), (firstT f s t).2) else firstL f (firstT f s t).2 (n + (firstT f s t).1.1) l
end
theorem firstT_eq {σ : Type} (f : σ → T → Bool × σ) (s : σ) (t : T) : firstT f s t = if (f s t).1 = true then ((0, true), (f s t).2) else firstL f (f s t).2 1 t.kids := by
  cases t; rw [firstT]; rfl
theorem firstL_append {σ : Type} (f : σ → T → Bool × σ) (a b : List T) : ∀ (s : σ) (n : Nat), firstL f s n (a ++ b) = if (firstL f s n a).1.2 = true then firstL f s n a else firstL f (firstL f s n a).2 (firstL f s n a).1.1 b := by
  induction a with
  | nil => intro s n; simp [firstL]
  | cons t a ih =>
    intro s n
    rw [List.cons_append, firstL, firstL]
    by_cases h : (firstT f s t).1.2 = true
    · rw [if_pos h, if_pos h]; simp
    · rw [if_neg h, if_neg h]; exact ih _ _
theorem firstL_one {σ : Type} (f : σ → T → Bool × σ) (s : σ) (n : Nat) (t : T) : firstL f s n [t] = ((n + (firstT f s t).1.1, (firstT f s t).1.2), (firstT f s t).2) := by
  rw [firstL]
  by_cases h : (firstT f s t).1.2 = true
  · rw [if_pos h, h]
  · rw [if_neg h, firstL]
    have : (firstT f s t).1.2 = false := by simpa using h
    rw [this]
theorem firstL_step {σ : Type} (f : σ → T → Bool × σ) {l : List T} {k : Nat} {u : T} {s s1 : σ} {n m : Nat} (hu : l[k]? = some u) (h : firstL f s n (l.take k) = ((m, false), s1)) : firstL f s n (l.take (k + 1)) = ((m + (firstT f s1 u).1.1, (firstT f s1 u).1.2), (firstT f s1 u).2) := by
  rw [List.take_add_one, hu, Option.toList_some, firstL_append, h]
  simp only [Bool.false_eq_true, if_false]
  exact firstL_one f s1 m u
theorem firstL_stop {σ : Type} (f : σ → T → Bool × σ) {l : List T} {k : Nat} {s : σ} {n : Nat} (h : (firstL f s n (l.take k)).1.2 = true) : firstL f s n l = firstL f s n (l.take k) := by
  conv => lhs; rw [← List.take_append_drop k l]
  rw [firstL_append, if_pos h]
mutual
theorem firstT_le {σ : Type} (f : σ → T → Bool × σ) (s : σ) : ∀ t, (firstT f s t).1.1 ≤ sz t
  | .node k r i l => by
    have h := firstL_le f (f s (.node k r i l)).2 1 l
    rw [firstT, sz]
    split
    · exact Nat.zero_le _
    · exact h
theorem firstL_le {σ : Type} (f : σ → T → Bool × σ) (s : σ) (n : Nat) : ∀ l, (firstL f s n l).1.1 ≤ n + szL l
  | [] => by rw [firstL]; simp [szL]
  | t :: l => by
    have h1 := firstT_le f s t
    have h2 := firstL_le f (firstT f s t).2 (n + (firstT f s t).1.1) l
    rw [firstL, szL]
    split
    · simp only; omega
    · omega
end
mutual
theorem rem_firstT {σ : Type} (f : σ → T → Bool × σ) (rem : σ → Nat) (hrem : ∀ s t, rem s ≤ rem (f s t).2 + 1) (s : σ) : ∀ t, rem s ≤ rem (firstT f s t).2 + sz t
  | .node k r i l => by
    have h1 := hrem s (.node k r i l)
    have h2 := rem_firstL f rem hrem (f s (.node k r i l)).2 1 l
    rw [firstT, sz]
    split
    · simp only; omega
    · omega
theorem rem_firstL {σ : Type} (f : σ → T → Bool × σ) (rem : σ → Nat) (hrem : ∀ s t, rem s ≤ rem (f s t).2 + 1) (s : σ) (n : Nat) : ∀ l, rem s ≤ rem (firstL f s n l).2 + szL l
  | [] => by rw [firstL]; exact Nat.le_add_right _ _
  | t :: l => by
    have h1 := rem_firstT f rem hrem s t
    have h2 := rem_firstL f rem hrem (firstT f s t).2 (n + (firstT f s t).1.1) l
    rw [firstL, szL]
    split
    · simp only; omega
    · omega
end

/-- What a closure says of a cell, and what it keeps then. -/
def JudgeF {σ : Type} (rem : σ → Nat) (w0 : World) (own : σ → Option Obj → Nat → Prop) (I : σ → World → Prop) (F : Nat) (lb : Array Value) (f : σ → T → Bool × σ) (t : T) : Prop :=
  ∀ (s : σ) (c : C) (W : World), sz t ≤ rem s → Is w0 c t → I s W → Calls Try.prog F (#[cval c] ++ lb) W fun e w' => e = .returned (.bool (f s t).1) ∧ I (f s t).2 w' ∧ Fr own s W (f s t).2 w'
structure MachF {σ : Type} (w0 : World) (own : σ → Option Obj → Nat → Prop) (I : σ → World → Prop) : Prop where
  new : ∀ s W cs, I s W → ¬ own s (some (.cells cs 26 (0, 0))) W.heap.size
  below : ∀ s W, I s W → Below w0.heap.size w0 W
  up : ∀ s W W', I s W → Below W.heap.size W W' → I s W'

set_option maxRecDepth 100000 in
set_option maxHeartbeats 1600000 in
theorem first_any {σ : Type} {w0 : World} {own : σ → Option Obj → Nat → Prop} {I : σ → World → Prop} (hM : MachF w0 own I) (F : Nat) (hE : Enters F) (lb : Array Value) (f : σ → T → Bool × σ) (rem : σ → Nat) (hrem : ∀ s t, rem s ≤ rem (f s t).2 + 1) (hJ : ∀ t, JudgeF rem w0 own I F lb f t) (N : Nat) :
    ∀ (t : T) (c : C) (s : σ) (W : World), sz t ≤ N → sz t ≤ 1000000 → sz t ≤ rem s → Is w0 c t → I s W →
      Calls Try.prog 62 #[cval c, .func (.func F) #[] lb] W fun e w' => e = .returned (.tuple #[.int .i64 ((firstT f s t).1.1 : Nat), .bool (firstT f s t).1.2]) ∧ I (firstT f s t).2 w' ∧ Fr own s W (firstT f s t).2 w' := by
  have hent : ∀ (args : Array Value) (w : World), (callFunc F args).run Try.prog w = .ok (.enter F args) w := hE
  have HM := Lib.hid hM
  have HJ := Lib.hid hJ
  have HREM := Lib.hid hrem
  clear hM hJ hrem hE
  induction N with
  | zero => intro t c s W h; have := sz_pos t; omega
  | succ N ih =>
    intro t c s W hN hmil hsz hi hI
    have HIH := Lib.hid ih
    clear ih
    have HA : Hid (Below W.heap.size W (W.alloc (cbox c))) := (Below.refl _ _).alloc (Nat.le_refl _) _
    have HK := Lib.hid (HJ.out t s c (W.alloc (cbox c)) hsz hi (HM.out.up _ _ _ hI HA.out))
    have HNW : Hid (¬ own s (W.alloc (cbox c)).heap[W.heap.size]? W.heap.size) := Lib.hid (by rw [heap_alloc_new]; exact HM.out.new s W _ hI)
    have HROW := Lib.hid hi.row
    have hcn := hi.n
    have HLEN := Lib.hid hi.len
    have HSZ : Hid (szL t.kids ≤ rem (f s t).2) := Lib.hid (by have := HREM.out s t; have := sz_node t; omega)
    have HND := Lib.hid (sz_node t)
    have HMIL := Lib.hid hmil
    have HNN := Lib.hid hN
    clear hi hI hsz hN hmil
    rw [firstT_eq]
    generalize f s t = res at HK HSZ ⊢
    obtain ⟨rb, rs⟩ := res
    obtain ⟨ck, cr, cid, ca, cn, ccap⟩ := c
    simp only at hcn
    subst hcn
    cases rb
    · simp only [Bool.false_eq_true, if_false]
      go_enter Try.func62, Try.ntmps62
      go_wp2_with fail
      refine HK.out.mono ?_
      rintro e w2 ⟨rfl, hi2, hfr2⟩
      have HI2 := Lib.hid hi2
      have HF2 := Lib.hid ((Fr.of HA.out).trans hfr2)
      obtain ⟨-, -, -, -, -, -, q6⟩ := (cbox_new W _).fr hfr2 HNW.out
      clear hi2 hfr2
      go_wp2
      go_loopg [6, 17] (t.kids.length + 1) (fun g n i wr => ∃ (k m : Nat) (s1 : σ), g + k = t.kids.length + 1 ∧ k ≤ t.kids.length ∧ n = .int .i64 m ∧ i = .int .i64 k ∧ firstL f rs 1 (t.kids.take k) = ((m, false), s1) ∧ I s1 wr ∧ Fr own s W s1 wr)
      case atStart => exact ⟨0, 1, rs, by omega, by omega, rfl, rfl, by simp [firstL], HI2.out, HF2.out⟩
      case round =>
        obtain ⟨k, m, s1, hg, hk, rfl, rfl, hfd, hi1, hfr⟩ := hrel
        have HG := Lib.hid hg
        have HFD := Lib.hid hfd
        have HI1 := Lib.hid hi1
        have HFR := Lib.hid hfr
        clear hg hfd hi1 hfr
        have hln := HLEN.out
        by_cases hlt : k < t.kids.length
        · obtain ⟨b, o, hca, hf⟩ := HROW.out.place (by omega)
          subst hca
          obtain ⟨u, hu⟩ : ∃ u, t.kids[k]? = some u := ⟨_, List.getElem?_eq_getElem hlt⟩
          obtain ⟨x, hx, hxi⟩ := hf k u hu
          obtain ⟨c0, c1, c2, c3, c4, c5, c6⟩ := hx.up (HM.out.below _ _ HI1.out)
          clear hf hx
          have HB : Hid (Below wr.heap.size wr (wr.alloc (cbox x))) := (Below.refl _ _).alloc (Nat.le_refl _) _
          have hszu : sz u ≤ rem s1 := by
            have h1 := rem_firstL f rem HREM.out rs 1 (t.kids.take k)
            rw [HFD.out] at h1
            have h2 := szL_take_succ hu
            have h3 := szL_take_le t.kids (k + 1)
            have := HSZ.out
            simp only at h1 this
            omega
          have hszk := sz_kid hu
          have HKR := Lib.hid (HIH.out u x s1 (wr.alloc (cbox x)) (by have := HNN.out; omega) (by have := HMIL.out; omega) hszu hxi (HM.out.up _ _ _ HI1.out HB.out))
          have HST := Lib.hid (firstL_step f hu HFD.out)
          have hle : m + (firstT f s1 u).1.1 ≤ 1000000 := by
            have h1 := firstL_le f rs 1 (t.kids.take (k + 1))
            rw [HST.out] at h1
            have h3 := szL_take_le t.kids (k + 1)
            have := HND.out
            have := HMIL.out
            simp only at h1
            omega
          clear hu hxi hszu hszk
          generalize firstT f s1 u = res2 at HKR HST hle
          obtain ⟨⟨n2, b2⟩, s2⟩ := res2
          simp only at hle
          go_wp2_with fail
          refine HKR.out.mono ?_
          rintro e w3 ⟨rfl, hi3, hfr3⟩
          have HI3 := Lib.hid hi3
          have HF3 := Lib.hid ((HFR.out.trans (Fr.of HB.out)).trans hfr3)
          clear hi3 hfr3
          cases b2
          · go_wp2
            go_roundg (gk - 1)
            case measure => have := HG.out; omega
            case rel => exact ⟨k + 1, m + n2, s2, by have := HG.out; omega, by omega, by go_num, by go_num, HST.out, HI3.out, HF3.out⟩
          · go_wp2
            go_ret2
            have hs := firstL_stop f (l := t.kids) (k := k + 1) (s := rs) (n := 1) (by rw [HST.out])
            rw [hs, HST.out]
            exact ⟨by go_num, HI3.out, HF3.out⟩
        · obtain rfl : k = t.kids.length := by omega
          have hkl : ((t.kids.length : Int) < (t.kids.length : Int)) = False := by simp
          go_wp2
          go_ret2
          have := HFD.out
          rw [List.take_length] at this
          rw [this]
          exact ⟨rfl, HI1.out, HFR.out⟩
    · go_enter Try.func62, Try.ntmps62
      go_wp2_with fail
      refine HK.out.mono ?_
      rintro e w2 ⟨rfl, hi2, hfr2⟩
      have HI2 := Lib.hid hi2
      have HF2 := Lib.hid ((Fr.of HA.out).trans hfr2)
      clear hi2 hfr2
      go_wp2
      go_ret2
      exact ⟨rfl, HI2.out, HF2.out⟩
end Go.Proofs.Ytakofjbjciljjaa
