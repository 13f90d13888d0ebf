/- Texts of this seat, 3 in one file. -/
import Derived.Test.YtodcabaihhmhnaaG07
import Derived.Test.YtodcabaihhmhnaaG15
import Derived.Test.YtodcabaihhmhnaaG08
import Derived.Test.YtodcabaihhmhnaaG16
/- May a tree be? The document's walk. -/
namespace Go.Proofs.Ytodcabaihhmhnaa
open Go.RowKit

theorem well_no {k : Int} {r : R} {id : Int} {n : Nat} (h : ¬ (mayB r = true ∧ ((k = 1 ∧ (0 ≤ id ∧ id ≤ 2147483647) ∧ n = 0) ∨ ((k = 2 ∨ k = 3) ∧ id = 0 ∧ 2 ≤ n)))) : wellB k r id n = false := by
  cases e : wellB k r id n with
  | false => rfl
  | true =>
    refine absurd ?_ h
    simpa [wellB] using e
theorem well_yes {k : Int} {r : R} {id : Int} {n : Nat} (h : mayB r = true ∧ ((k = 1 ∧ (0 ≤ id ∧ id ≤ 2147483647) ∧ n = 0) ∨ ((k = 2 ∨ k = 3) ∧ id = 0 ∧ 2 ≤ n))) : wellB k r id n = true := by
  simpa [wellB] using h

/-- No number twice among the first ones. -/
def apartI (ms : List Int) (i : Nat) : Prop := ∀ (a b : Nat) (x y : Int), a < b → b < i → ms[a]? = some x → ms[b]? = some y → y ≠ x
theorem apart_nodup (ms : List Int) : apartI ms ms.length ↔ ms.Nodup := by
  unfold List.Nodup
  rw [List.pairwise_iff_getElem]
  constructor
  · intro h i j hi hj hij e
    exact h i j _ _ hij hj (List.getElem?_eq_getElem hi) (List.getElem?_eq_getElem hj) e.symm
  · intro h a b x y hab hb hx hy e
    obtain ⟨ha', rfl⟩ := List.getElem?_eq_some_iff.1 hx
    obtain ⟨hb', rfl⟩ := List.getElem?_eq_some_iff.1 hy
    exact h a b ha' hb' hab e.symm

def rmayT (t : T) : Bool := (preT t).all wellT && decide ((((preT t).filter leafB).map T.id).Nodup)
theorem rmay_no1 {t u : T} {k : Nat} (h : (preT t)[k]? = some u) (hw : wellT u = false) : rmayT t = false := by
  have : (preT t).all wellT = false := by
    cases e : (preT t).all wellT with
    | false => rfl
    | true => rw [List.all_eq_true.1 e u (List.mem_of_getElem? h)] at hw; cases hw
  rw [rmayT, this]; rfl

set_option maxRecDepth 100000 in
set_option maxHeartbeats 4000000 in
theorem rmayOne_any (t : T) (c : C) (w : World) (hm : sz t ≤ 20000) (hi : Is w c t) : Calls Try.prog 43 #[cval c] w fun e w' => e = .returned (.bool (rmayT t)) ∧ Below w.heap.size w w' := by
  have B1 : Hid (Below w.heap.size w (w.alloc (cbox c))) := (Below.refl _ _).alloc (Nat.le_refl _) _
  have H := Lib.hid (rall_any w (sz t) t c (w.alloc (cbox c)) (Nat.le_refl _) (by omega) hi B1.out)
  have HI := Lib.hid hi
  have HM := Lib.hid hm
  clear hi hm
  go_enter Try.func43, Try.ntmps43
  go_wp2_with fail
  refine H.out.mono ?_
  rintro e w2 ⟨vl, al, rfl, howl, htl, hb2⟩
  have HT := Lib.hid htl
  have hall : al.length ≤ 20000 := by rw [htl.1, preT_len]; exact HM.out
  have HROW := Lib.hid howl.row
  obtain ⟨aa, capl, rfl⟩ := howl.row.shape
  have HBX := Lib.hid hb2
  have HB2 := Lib.hid (below_one hb2)
  clear hb2 howl htl
  have d20 : decide (20000 < (al.length : Int)) = false := decide_eq_false (by omega)
  have d20' : decide (20000 < al.length) = false := decide_eq_false (by omega)
  go_wp2
  go_loopg [15] (al.length + 1) (fun g i wr => ∃ (k : Nat), g + k = al.length + 1 ∧ k ≤ al.length ∧ i = .int .i64 k ∧ (∀ (j : Nat) (u : T), j < k → (preT t)[j]? = some u → wellT u = true) ∧ Below w2.heap.size w2 wr)
  case atStart => exact ⟨0, by omega, by omega, rfl, fun j u hj => by omega, Below.refl _ _⟩
  case round =>
    obtain ⟨k, hg, hk, rfl, hwell, hb⟩ := hrel
    have HG := Lib.hid hg
    have HW := Lib.hid hwell
    have HB := Lib.hid hb
    clear hg hwell hb
    by_cases hlt : k < al.length
    · obtain ⟨x, u, hx, hu, hxu⟩ := HT.out.at hlt
      obtain ⟨b, o, rfl, hf⟩ := HROW.out.place (by omega)
      have HX := Lib.hid (hf k x hx)
      clear hf
      have HU := Lib.hid hu
      have hfine := hxu.fine
      have hwe := well_is hxu
      obtain ⟨xk, xr, xid, xa, xn, xcap⟩ := x
      have hk0 := hfine.1
      have hn0 := hfine.2.2.2
      simp only at hk0 hn0
      have HMY := Lib.hid (rmay_any xr wr hfine.2.1)
      have HWE : Hid (wellB xk xr xid xn = wellT u) := hwe
      clear hxu hx hu hfine hwe
      have HBW := Lib.hid (HB2.out.trans (HB.out.mono HB2.out.size))
      obtain ⟨c0, c1, c2, c3, c4, c5, c6⟩ := HX.out.up HB.out
      cases hmy : mayB xr with
      | false =>
        rw [hmy] at HMY
        have HNO := Lib.hid (rmay_no1 HU.out (HWE.out.symm.trans (well_no (by rw [hmy]; simp))))
        clear hmy
        go_wp2_with fail
        refine HMY.out.mono ?_
        rintro e w3 ⟨rfl, hb3⟩
        have HB3 := Lib.hid (HBW.out.trans (hb3.mono HBW.out.size))
        clear hb3
        go_wp2
        go_ret
        exact ⟨by rw [HNO.out]; rfl, HB3.out⟩
      | true =>
        rw [hmy] at HMY
        by_cases h1 : xk < 1
        · have d1 : decide (xk < 1) = true := decide_eq_true h1
          have HNO := Lib.hid (rmay_no1 HU.out (HWE.out.symm.trans (well_no (by omega))))
          clear hmy
          go_wp2_with fail
          refine HMY.out.mono ?_
          rintro e w3 ⟨rfl, hb3⟩
          have HB3 := Lib.hid (HBW.out.trans (hb3.mono HBW.out.size))
          obtain ⟨e0, e1, e2, e3, e4, e5, e6⟩ := (HX.out.up HB.out).up hb3
          clear hb3 c0 c1 c2 c3 c4 c5 c6
          go_wp2
          go_ret
          exact ⟨by rw [HNO.out]; rfl, HB3.out⟩
        have d1 : decide (xk < 1) = false := decide_eq_false h1
        by_cases h3 : 3 < xk
        · have d3 : decide (3 < xk) = true := decide_eq_true h3
          have HNO := Lib.hid (rmay_no1 HU.out (HWE.out.symm.trans (well_no (by omega))))
          clear hmy
          go_wp2_with fail
          refine HMY.out.mono ?_
          rintro e w3 ⟨rfl, hb3⟩
          have HB3 := Lib.hid (HBW.out.trans (hb3.mono HBW.out.size))
          obtain ⟨e0, e1, e2, e3, e4, e5, e6⟩ := (HX.out.up HB.out).up hb3
          clear hb3 c0 c1 c2 c3 c4 c5 c6
          go_wp2
          go_ret
          exact ⟨by rw [HNO.out]; rfl, HB3.out⟩
        have d3 : decide (3 < xk) = false := decide_eq_false h3
        by_cases hk1 : xk = 1
        · have f1 : (xk == 1) = true := by rw [beq_iff_eq]; exact hk1
          have f2 : decide (1 < xk) = false := decide_eq_false (by omega)
          by_cases hn : 0 < xn
          · have g1 : decide (0 < (xn : Int)) = true := decide_eq_true (by omega)
            have g2 : decide (0 < xn) = true := decide_eq_true hn
            have HNO := Lib.hid (rmay_no1 HU.out (HWE.out.symm.trans (well_no (by omega))))
            clear hmy
            go_wp2_with fail
            refine HMY.out.mono ?_
            rintro e w3 ⟨rfl, hb3⟩
            have HB3 := Lib.hid (HBW.out.trans (hb3.mono HBW.out.size))
            obtain ⟨e0, e1, e2, e3, e4, e5, e6⟩ := (HX.out.up HB.out).up hb3
            clear hb3 c0 c1 c2 c3 c4 c5 c6
            go_wp2
            go_ret
            exact ⟨by rw [HNO.out]; rfl, HB3.out⟩
          have g1 : decide (0 < (xn : Int)) = false := decide_eq_false (by omega)
          have g2 : decide (0 < xn) = false := decide_eq_false hn
          by_cases hi0 : xid < 0
          · have i1 : decide (xid < 0) = true := decide_eq_true hi0
            have HNO := Lib.hid (rmay_no1 HU.out (HWE.out.symm.trans (well_no (by omega))))
            clear hmy
            go_wp2_with fail
            refine HMY.out.mono ?_
            rintro e w3 ⟨rfl, hb3⟩
            have HB3 := Lib.hid (HBW.out.trans (hb3.mono HBW.out.size))
            obtain ⟨e0, e1, e2, e3, e4, e5, e6⟩ := (HX.out.up HB.out).up hb3
            clear hb3 c0 c1 c2 c3 c4 c5 c6
            go_wp2
            go_ret
            exact ⟨by rw [HNO.out]; rfl, HB3.out⟩
          have i1 : decide (xid < 0) = false := decide_eq_false hi0
          by_cases him : 2147483647 < xid
          · have i2 : decide (2147483647 < xid) = true := decide_eq_true him
            have HNO := Lib.hid (rmay_no1 HU.out (HWE.out.symm.trans (well_no (by omega))))
            clear hmy
            go_wp2_with fail
            refine HMY.out.mono ?_
            rintro e w3 ⟨rfl, hb3⟩
            have HB3 := Lib.hid (HBW.out.trans (hb3.mono HBW.out.size))
            obtain ⟨e0, e1, e2, e3, e4, e5, e6⟩ := (HX.out.up HB.out).up hb3
            clear hb3 c0 c1 c2 c3 c4 c5 c6
            go_wp2
            go_ret
            exact ⟨by rw [HNO.out]; rfl, HB3.out⟩
          have i2 : decide (2147483647 < xid) = false := decide_eq_false him
          have HYES := Lib.hid (HWE.out.symm.trans (well_yes ⟨hmy, by omega⟩))
          clear hmy
          go_wp2_with fail
          refine HMY.out.mono ?_
          rintro e w3 ⟨rfl, hb3⟩
          have HB3 := Lib.hid (HB.out.trans (hb3.mono HB.out.size))
          obtain ⟨e0, e1, e2, e3, e4, e5, e6⟩ := (HX.out.up HB.out).up hb3
          clear hb3 c0 c1 c2 c3 c4 c5 c6
          go_wp2
          go_roundg (gk - 1)
          case measure => have := HG.out; omega
          case rel =>
            refine ⟨k + 1, by have := HG.out; omega, by omega, by go_num, fun j y hj hy => ?_, HB3.out⟩
            rcases Nat.lt_or_ge j k with h | h
            · exact HW.out j y h hy
            · obtain rfl : j = k := by omega
              rw [HU.out] at hy; cases hy
              exact HYES.out
        · have f1 : (xk == 1) = false := by rw [beq_eq_false_iff_ne]; exact hk1
          have f2 : decide (1 < xk) = true := decide_eq_true (by omega)
          by_cases hn : xn < 2
          · have g1 : decide ((xn : Int) < 2) = true := decide_eq_true (by omega)
            have g2 : decide (xn < 2) = true := decide_eq_true hn
            have HNO := Lib.hid (rmay_no1 HU.out (HWE.out.symm.trans (well_no (by omega))))
            clear hmy
            go_wp2_with fail
            refine HMY.out.mono ?_
            rintro e w3 ⟨rfl, hb3⟩
            have HB3 := Lib.hid (HBW.out.trans (hb3.mono HBW.out.size))
            obtain ⟨e0, e1, e2, e3, e4, e5, e6⟩ := (HX.out.up HB.out).up hb3
            clear hb3 c0 c1 c2 c3 c4 c5 c6
            go_wp2
            go_ret
            exact ⟨by rw [HNO.out]; rfl, HB3.out⟩
          have g1 : decide ((xn : Int) < 2) = false := decide_eq_false (by omega)
          have g2 : decide (xn < 2) = false := decide_eq_false hn
          by_cases hi0 : xid = 0
          · have i1 : (xid != 0) = false := by rw [hi0]; rfl
            have i2 : (xid == 0) = true := by rw [hi0]; rfl
            have HYES := Lib.hid (HWE.out.symm.trans (well_yes ⟨hmy, by omega⟩))
            clear hmy
            go_wp2_with fail
            refine HMY.out.mono ?_
            rintro e w3 ⟨rfl, hb3⟩
            have HB3 := Lib.hid (HB.out.trans (hb3.mono HB.out.size))
            obtain ⟨e0, e1, e2, e3, e4, e5, e6⟩ := (HX.out.up HB.out).up hb3
            clear hb3 c0 c1 c2 c3 c4 c5 c6
            go_wp2
            go_roundg (gk - 1)
            case measure => have := HG.out; omega
            case rel =>
              refine ⟨k + 1, by have := HG.out; omega, by omega, by go_num, fun j y hj hy => ?_, HB3.out⟩
              rcases Nat.lt_or_ge j k with h | h
              · exact HW.out j y h hy
              · obtain rfl : j = k := by omega
                rw [HU.out] at hy; cases hy
                exact HYES.out
          have i1 : (xid != 0) = true := by simpa using hi0
          have i2 : (xid == 0) = false := by simpa using hi0
          have HNO := Lib.hid (rmay_no1 HU.out (HWE.out.symm.trans (well_no (by omega))))
          clear hmy
          go_wp2_with fail
          refine HMY.out.mono ?_
          rintro e w3 ⟨rfl, hb3⟩
          have HB3 := Lib.hid (HBW.out.trans (hb3.mono HBW.out.size))
          obtain ⟨e0, e1, e2, e3, e4, e5, e6⟩ := (HX.out.up HB.out).up hb3
          clear hb3 c0 c1 c2 c3 c4 c5 c6
          go_wp2
          go_ret
          exact ⟨by rw [HNO.out]; rfl, HB3.out⟩
    · obtain rfl : k = al.length := by omega
      have hkl : ((al.length : Int) < (al.length : Int)) = False := by simp
      have HWL : Hid ((preT t).all wellT = true) := Lib.hid (by
        rw [List.all_eq_true]
        intro u hu
        obtain ⟨j, hj, rfl⟩ := List.getElem_of_mem hu
        exact HW.out j _ (by rw [HT.out.1]; exact hj) (List.getElem?_eq_getElem hj))
      have HBW := Lib.hid (HB2.out.trans (HB.out.mono HB2.out.size))
      obtain ⟨q0, q1, q2, q3, q4, q5, q6⟩ := box_at (HBX.out.trans (HB.out.mono HBX.out.size))
      have HK := Lib.hid (rleaves_any w t c wr (by have := HM.out; omega) HI.out HBW.out)
      have hres : rmayT t = decide ((((preT t).filter leafB).map T.id).Nodup) := by rw [rmayT, HWL.out]; rfl
      have HRES := Lib.hid hres
      have HLL := Lib.hid (show ((preT t).filter leafB).length ≤ 20000 by have := List.length_filter_le leafB (preT t); rw [preT_len] at this; have := HM.out; omega)
      clear hres
      generalize (preT t).filter leafB = ls at HK HRES HLL
      go_wp2_with fail
      refine HK.out.mono ?_
      rintro e w3 ⟨v3, lv, rfl, how3, ht3, hb3⟩
      have HT3 := Lib.hid ht3
      have HROW3 := Lib.hid how3.row
      obtain ⟨a3, cap3, rfl⟩ := how3.row.shape
      have HB3 := Lib.hid (HBW.out.trans (hb3.mono HBW.out.size))
      have hl3 : lv.length ≤ 20000 := by rw [ht3.1]; exact HLL.out
      have HIDS : Hid (∀ (j : Nat) (x : C), lv[j]? = some x → (ls.map T.id)[j]? = some x.id) := fun j x hx => by
        have hj : j < ls.length := by
          rw [← ht3.1]; exact (List.getElem?_eq_some_iff.1 hx).1
        have h1 := List.getElem?_eq_getElem hj
        have h2 := (ht3.2 j x _ hx h1).split.2.2.1
        rw [List.getElem?_map, h1, Option.map_some, h2]
      clear how3 ht3 hb3 q0 q1 q2 q3 q4 q5 q6
      go_wp2
      go_loopg [102] (lv.length + 1) (fun g i wr => ∃ (k : Nat), g + k = lv.length + 1 ∧ k ≤ lv.length ∧ i = .int .i64 k ∧ apartI (ls.map T.id) k ∧ Below w3.heap.size w3 wr)
      case atStart => exact ⟨0, by omega, by omega, rfl, fun a b x y hab hb => by omega, Below.refl _ _⟩
      case round =>
        obtain ⟨i, hg, hi', rfl, hap, hb⟩ := hrel
        have HG2 := Lib.hid hg
        have HAP := Lib.hid hap
        have HB4 := Lib.hid hb
        clear hg hap hb
        by_cases hlt2 : i < lv.length
        · have hlti : (i : Int) < (lv.length : Int) := by omega
          obtain ⟨b, o, rfl, hf⟩ := HROW3.out.place (by omega)
          obtain ⟨x, hx⟩ : ∃ x, lv[i]? = some x := ⟨_, List.getElem?_eq_getElem hlt2⟩
          have HF := Lib.hid hf
          have HX := Lib.hid hx
          clear hf hx
          obtain ⟨gko, hgko⟩ : ∃ n, n = gk := ⟨_, rfl⟩
          have HGK := Lib.hid hgko
          clear hgko
          go_wp2
          go_loopg [7] (i + 1) (fun g q wr => ∃ (k : Nat), g + k = i + 1 ∧ k ≤ i ∧ q = .int .i64 k ∧ (∀ (a : Nat) (y : C), a < k → lv[a]? = some y → x.id ≠ y.id) ∧ Below w3.heap.size w3 wr)
          case atStart => exact ⟨0, by omega, by omega, rfl, fun a y ha => by omega, HB4.out⟩
          case round =>
            obtain ⟨q, hg, hq, rfl, hno, hb⟩ := hrel
            have HG3 := Lib.hid hg
            have HNO := Lib.hid hno
            have HB5 := Lib.hid hb
            clear hg hno hb
            by_cases hlt3 : q < i
            · have hqi : (q : Int) < (i : Int) := by omega
              have hqi' : decide (q < i) = true := decide_eq_true hlt3
              obtain ⟨y, hy⟩ : ∃ y, lv[q]? = some y := ⟨_, List.getElem?_eq_getElem (by omega)⟩
              have c5 := ((HF.out i x HX.out).up HB5.out).2.2.2.2.2.1
              have e5 := ((HF.out q y hy).up HB5.out).2.2.2.2.2.1
              have hql : (q : Int) < (lv.length : Int) := by omega
              have HY := Lib.hid hy
              clear hy
              by_cases hxy : x.id = y.id
              · have d1 : (x.id == y.id) = true := by simpa using hxy
                have HV : Hid (rmayT t = false) := Lib.hid (by
                  rw [HRES.out, decide_eq_false]
                  intro hnd
                  have := (apart_nodup (ls.map T.id)).2 hnd
                  exact this q i _ _ hlt3 (by rw [List.length_map, ← HT3.out.1]; exact hlt2) (HIDS.out q y HY.out) (HIDS.out i x HX.out) hxy)
                go_wp2
                go_quiet (fail)
                go_wp2
                go_ret
                exact ⟨by rw [HV.out]; rfl, HB3.out.trans (Below.mono ⟨HB5.out.os, HB5.out.tape, HB5.out.output, HB5.out.size, HB5.out.block⟩ HB3.out.size)⟩
              · have d1 : (x.id == y.id) = false := by simpa using hxy
                go_wp2
                go_quiet (fail)
                go_wp2
                go_roundg (gk - 1)
                case measure => have := HG3.out; omega
                case rel =>
                  refine ⟨q + 1, by have := HG3.out; omega, by omega, by go_num, fun a z ha hz => ?_, ⟨HB5.out.os, HB5.out.tape, HB5.out.output, HB5.out.size, HB5.out.block⟩⟩
                  rcases Nat.lt_or_ge a q with h | h
                  · exact HNO.out a z h hz
                  · obtain rfl : a = q := by omega
                    rw [HY.out] at hz; cases hz
                    exact hxy
            · obtain rfl : q = i := by omega
              have hkl2 : ((q : Int) < (q : Int)) = False := by simp
              go_wp2
              go_roundg (gko - 1)
              case measure => have := HG2.out; have := HGK.out; omega
              case rel =>
                refine ⟨q + 1, by have := HG2.out; have := HGK.out; omega, by omega, by go_num, fun a b' z z' hab hb' hz hz' => ?_, HB5.out⟩
                rcases Nat.lt_or_ge b' q with h | h
                · exact HAP.out a b' z z' hab h hz hz'
                · obtain rfl : b' = q := by omega
                  rw [HIDS.out b' x HX.out] at hz'; cases hz'
                  obtain ⟨y, hy⟩ : ∃ y, lv[a]? = some y := ⟨_, List.getElem?_eq_getElem (by omega)⟩
                  rw [HIDS.out a y hy] at hz; cases hz
                  exact HNO.out a y hab hy
        · obtain rfl : i = lv.length := by omega
          have hkl2 : ((lv.length : Int) < (lv.length : Int)) = False := by simp
          have HV : Hid (rmayT t = true) := Lib.hid (by
            rw [HRES.out, decide_eq_true]
            refine (apart_nodup (ls.map T.id)).1 ?_
            rw [List.length_map, ← HT3.out.1]; exact HAP.out)
          go_wp2
          go_ret
          exact ⟨by rw [HV.out]; rfl, HB3.out.trans (HB4.out.mono HB3.out.size)⟩
end Go.Proofs.Ytodcabaihhmhnaa
/- May a tree be? The program's answer is the document's. -/
namespace Go.Proofs.Ytodcabaihhmhnaa
open Go.RowKit

def idsP (l : List T) : List Int := (l.filter leafB).map T.id
theorem idsP_append (a b : List T) : idsP (a ++ b) = idsP a ++ idsP b := by simp [idsP]
theorem idsP_cons (t : T) (l : List T) : idsP (t :: l) = (if leafB t then [t.id] else []) ++ idsP l := by
  unfold idsP
  cases h : leafB t <;> simp [h]
/-- All may be, and no number was met ahead. -/
def okP (l : List T) (ms : List Int) : Prop := l.all wellT = true ∧ ((idsP l).reverse ++ ms).Nodup
theorem nodup_rev {a : List Int} : a.reverse.Nodup ↔ a.Nodup := by
  unfold List.Nodup
  rw [List.pairwise_reverse]
  exact ⟨fun h => h.imp fun hab e => hab e.symm, fun h => h.imp fun hab e => hab e.symm⟩
theorem nodup_right {a b : List Int} (h : (a ++ b).Nodup) : b.Nodup := h.sublist (List.sublist_append_right a b)

theorem step_bad {n : Nat} {ms : List Int} {t : T} (hn : n + 1 ≤ 20000) (h : wellT t = false) : (mayStep (n, ms) t).1 = true := by
  rw [mayStep, if_pos (.inr h)]
theorem step_row {n : Nat} {ms : List Int} {t : T} (hn : n + 1 ≤ 20000) (h : wellT t = true) (hk : leafB t = false) : mayStep (n, ms) t = (false, (n + 1, ms)) := by
  rw [mayStep, if_neg (by simp [h]; omega), if_pos (by simpa [leafB] using hk)]
theorem step_leaf {n : Nat} {ms : List Int} {t : T} (hn : n + 1 ≤ 20000) (h : wellT t = true) (hk : leafB t = true) : mayStep (n, ms) t = (decide (t.id ∈ ms), (n + 1, t.id :: ms)) := by
  rw [mayStep, if_neg (by simp [h]; omega), if_neg (by simpa [leafB] using hk)]

mutual
theorem goT_may : ∀ (t : T) (n : Nat) (ms : List Int), n + sz t ≤ 20000 → ms.Nodup →
    (okP (preT t) ms → goT mayStep (n, ms) t = (false, (n + sz t, (idsP (preT t)).reverse ++ ms))) ∧ (¬ okP (preT t) ms → (goT mayStep (n, ms) t).1 = true)
  | .node k r i l, n, ms, hn, hms => by
    have ihl := goL_may l
    rw [sz] at hn
    rw [goT_eq, preT, idsP_cons]
    cases hw : wellT (.node k r i l) with
    | false =>
      have h1 := step_bad (ms := ms) (show n + 1 ≤ 20000 by omega) hw
      refine ⟨fun h => ?_, fun _ => by rw [if_pos h1]; exact h1⟩
      have := h.1
      rw [List.all_cons, hw] at this
      cases this
    | true =>
      cases hk : leafB (.node k r i l) with
      | false =>
        rw [step_row (by omega) hw hk]
        obtain ⟨h1, h2⟩ := ihl (n + 1) ms (by omega) hms
        have hok : okP (.node k r i l :: preL l) ms ↔ okP (preL l) ms := by
          unfold okP
          rw [List.all_cons, hw, idsP_cons, hk]
          simp
        simp only [Bool.false_eq_true, if_false, List.nil_append, T.kids]
        refine ⟨fun h => ?_, fun h => h2 (fun g => h (hok.2 g))⟩
        rw [h1 (hok.1 h), sz]
        simp only [Prod.mk.injEq, true_and, and_true]
        omega
      | true =>
        rw [step_leaf (by omega) hw hk]
        have hid : (T.node k r i l).id = i := rfl
        rw [hid]
        have hok : okP (.node k r i l :: preL l) ms ↔ okP (preL l) (i :: ms) := by
          unfold okP
          rw [List.all_cons, hw, idsP_cons, hk, hid]
          simp
        by_cases hm : i ∈ ms
        · refine ⟨fun h => ?_, fun _ => by simp [hm]⟩
          have := nodup_right (hok.1 h).2
          rw [List.nodup_cons] at this
          exact absurd hm this.1
        · obtain ⟨h1, h2⟩ := ihl (n + 1) (i :: ms) (by omega) (List.nodup_cons.2 ⟨hm, hms⟩)
          simp only [decide_eq_false hm, Bool.false_eq_true, if_false, T.kids]
          refine ⟨fun h => ?_, fun h => h2 (fun g => h (hok.2 g))⟩
          rw [h1 (hok.1 h), sz]
          simp
          omega
theorem goL_may : ∀ (l : List T) (n : Nat) (ms : List Int), n + szL l ≤ 20000 → ms.Nodup →
    (okP (preL l) ms → goL mayStep (n, ms) l = (false, (n + szL l, (idsP (preL l)).reverse ++ ms))) ∧ (¬ okP (preL l) ms → (goL mayStep (n, ms) l).1 = true)
  | [], n, ms, hn, hms => by
    rw [goL, preL, szL]
    refine ⟨fun _ => by simp [idsP], fun h => absurd ⟨rfl, by simpa [idsP] using hms⟩ h⟩
  | t :: l, n, ms, hn, hms => by
    rw [szL] at hn
    obtain ⟨h1, h2⟩ := goT_may t n ms (by omega) hms
    have ihl := goL_may l
    rw [goL, preL, szL, idsP_append]
    by_cases ht : okP (preT t) ms
    · rw [h1 ht]
      obtain ⟨g1, g2⟩ := ihl (n + sz t) ((idsP (preT t)).reverse ++ ms) (by omega) ht.2
      have hok : okP (preT t ++ preL l) ms ↔ okP (preL l) ((idsP (preT t)).reverse ++ ms) := by
        unfold okP
        rw [List.all_append, ht.1, idsP_append]
        simp
      simp only [Bool.false_eq_true, if_false]
      refine ⟨fun h => ?_, fun h => g2 (fun g => h (hok.2 g))⟩
      rw [g1 (hok.1 h)]
      simp
      omega
    · have h3 := h2 ht
      rw [if_pos h3]
      refine ⟨fun h => absurd ⟨?_, ?_⟩ ht, fun _ => h3⟩
      · have := h.1
        rw [List.all_append, Bool.and_eq_true] at this
        exact this.1
      · have := h.2
        rw [idsP_append, List.reverse_append, List.append_assoc] at this
        exact nodup_right this
end

theorem may_is {t : T} (h : sz t ≤ 20000) : mayT t = rmayT t := by
  obtain ⟨h1, h2⟩ := goT_may t 0 [] (by omega) List.nodup_nil
  rw [mayT, rmayT]
  by_cases hk : okP (preT t) []
  · rw [h1 hk]
    have hnd : (((preT t).filter leafB).map T.id).Nodup := by
      have := hk.2
      rw [List.append_nil] at this
      have := nodup_rev.1 this
      exact this
    rw [hk.1, decide_eq_true hnd]; rfl
  · rw [h2 hk]
    symm
    cases e : (preT t).all wellT with
    | false => rfl
    | true =>
      rw [decide_eq_false]; rfl
      intro hnd
      exact hk ⟨e, by rw [List.append_nil]; exact nodup_rev.2 hnd⟩
end Go.Proofs.Ytodcabaihhmhnaa
/- What may be is small; the kids of what tiles tile. -/
namespace Go.Proofs.Ytodcabaihhmhnaa
open Go.RowKit

theorem mayStep_small {s : Nat × List Int} {t : T} (h : (mayStep s t).1 = false) : (mayStep s t).2.1 = s.1 + 1 ∧ s.1 + 1 ≤ 20000 := by
  unfold mayStep at h ⊢
  split at h
  · cases h
  · rename_i hn
    rw [if_neg hn]
    constructor
    · split <;> rfl
    · omega
mutual
theorem go_small (s : Nat × List Int) : ∀ t, (goT mayStep s t).1 = false → (goT mayStep s t).2.1 = s.1 + sz t ∧ s.1 + sz t ≤ 20000
  | .node k r i l => by
    intro h
    rw [goT] at h ⊢
    rw [sz]
    by_cases hf : (mayStep s (.node k r i l)).1 = true
    · rw [if_pos hf, hf] at h; cases h
    · rw [if_neg hf] at h ⊢
      obtain ⟨h1, h2⟩ := mayStep_small (s := s) (t := .node k r i l) (by simpa using hf)
      have h3 := goL_small (mayStep s (.node k r i l)).2 l h (by omega)
      omega
theorem goL_small (s : Nat × List Int) : ∀ l, (goL mayStep s l).1 = false → s.1 ≤ 20000 → (goL mayStep s l).2.1 = s.1 + szL l ∧ s.1 + szL l ≤ 20000
  | [] => by
    intro _ hs
    rw [goL, szL]
    exact ⟨rfl, hs⟩
  | t :: l => by
    intro h hs
    rw [goL] at h ⊢
    rw [szL]
    by_cases hf : (goT mayStep s t).1 = true
    · rw [if_pos hf, hf] at h; cases h
    · rw [if_neg hf] at h ⊢
      have h1 := go_small s t (by simpa using hf)
      have h3 := goL_small (goT mayStep s t).2 l h (by omega)
      omega
end
theorem may_small {t : T} (h : mayT t = true) : sz t ≤ 20000 := by
  unfold mayT at h
  have := go_small (0, []) t (by simpa using h)
  simp only at this
  omega
theorem tile_may {t : T} (h : tileB t = true) : mayT t = true := by
  unfold tileB at h
  rw [Bool.and_eq_true] at h
  exact h.1
theorem pre_cut {l : List T} {k : Nat} {u : T} (h : l[k]? = some u) : preL l = preL (l.take k) ++ preT u ++ preL (l.drop (k + 1)) := by
  conv => lhs; rw [← List.take_append_drop (k + 1) l]
  rw [preL_append, preL_step h]
theorem pre_sub {t u : T} {k : Nat} (h : t.kids[k]? = some u) : List.Sublist (preT u) (preT t) := by
  rw [preT_eq t, pre_cut h]
  refine List.Sublist.cons _ ?_
  rw [List.append_assoc]
  exact (List.sublist_append_left _ _).trans (List.sublist_append_right _ _)
theorem tile_kid {t u : T} {k : Nat} (hs : sz t ≤ 20000) (ht : tileB t = true) (h : t.kids[k]? = some u) : tileB u = true := by
  have hu : sz u < sz t := sz_kid h
  have hsub := pre_sub h
  unfold tileB at ht ⊢
  rw [may_is (by omega)] at ht ⊢
  unfold rmayT at ht ⊢
  simp only [Bool.and_eq_true, decide_eq_true_eq] at ht ⊢
  obtain ⟨⟨h1, h2⟩, h3⟩ := ht
  refine ⟨⟨?_, ?_⟩, ?_⟩
  · rw [List.all_eq_true] at h1 ⊢
    exact fun x hx => h1 x (hsub.mem hx)
  · exact ((hsub.filter leafB).map T.id).nodup h2
  · rw [List.all_eq_true] at h3 ⊢
    exact fun x hx => h3 x (hsub.mem hx)
theorem tile_top {t : T} (hs : sz t ≤ 20000) (ht : tileB t = true) : wellT t = true ∧ fitB t = true := by
  unfold tileB at ht
  rw [may_is (by omega)] at ht
  unfold rmayT at ht
  simp only [Bool.and_eq_true] at ht
  have hm : t ∈ preT t := by rw [preT_eq]; exact List.mem_cons_self ..
  exact ⟨List.all_eq_true.1 ht.1.1 t hm, List.all_eq_true.1 ht.2 t hm⟩
end Go.Proofs.Ytodcabaihhmhnaa
