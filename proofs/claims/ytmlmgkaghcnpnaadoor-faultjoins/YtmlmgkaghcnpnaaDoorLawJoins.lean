/- FaultJoins: several errors, put in words, joined, and put in words again. -/
import Derived.Test.YtmlmgkaghcnpnaaDoorMadeM
import Derived.Deep.RegionHeld3
namespace Go.Proofs.YtmlmgkaghcnpnaaDoor
open Go.RowKit

theorem greatF_parts {fs : List FD} (h : greatF fs = false) : fs.length ≤ 20 ∧ ∀ f ∈ fs, great1 f = false := by
  simp only [greatF, Bool.or_eq_false_iff, decide_eq_false_iff_not, List.any_eq_false] at h
  exact ⟨by omega, fun f hf => by have := h.2 f hf; simpa using this⟩

theorem two_up {w w' : World} {a b : Addr} {x y : Value} (h : w.cell? a = some x ∧ w.cell? b = some y) (hb : Below w.heap.size w w') : w'.cell? a = some x ∧ w'.cell? b = some y :=
  ⟨(hb.cell (lt_of_cell h.1)).trans h.1, (hb.cell (lt_of_cell h.2)).trans h.2⟩

set_option maxHeartbeats 3200000 in
set_option maxRecDepth 100000 in
theorem faultJoins_any (v : Value) (fs : List FD) (a2 : Option Addr) (c2 : Nat) (us : List ByteArray) (asked : Int) (w : World) (hg : EtLaid w) (hf : FRow w v fs) (hu : Strs w (.slice a2 us.length c2) us) :
    Calls Tryd.prog 4 #[v, .slice a2 us.length c2, .int .i64 asked] w fun e w' => e = .returned (.bool true) ∧ Below w.heap.size w w' := by
  have HG := Lib.hid hg
  have HF := Lib.hid hf
  have HU := Lib.hid hu
  obtain ⟨a1, c1, rfl⟩ := frow_shape hf
  clear hg hf hu
  have HGr := Lib.hid (great_any _ fs w HF.out)
  cases hgr : greatF fs with
  | true =>
    rw [hgr] at HGr
    go_enter Tryd.func4, Tryd.ntmps4
    go_wp2_with fail
    refine HGr.out.mono ?_
    rintro e w1 ⟨rfl, rfl⟩
    go_wp2_with fail
    refine (awake_any _ HG.out).mono ?_
    rintro e w2 ⟨rfl, hb⟩
    have B2 := Lib.hid hb
    clear hb
    go_wp2
    go_ret
    exact ⟨rfl, B2.out⟩
  | false =>
    rw [hgr] at HGr
    have HL := Lib.hid (greatF_parts hgr)
    clear hgr
    by_cases h19 : 19 < fs.length
    · have d0 : decide ((19 : Int) < (fs.length : Int)) = true := by simp; omega
      go_enter Tryd.func4, Tryd.ntmps4
      go_wp2_with fail
      refine HGr.out.mono ?_
      rintro e w1 ⟨rfl, rfl⟩
      go_wp2_with fail
      refine (awake_any _ HG.out).mono ?_
      rintro e w2 ⟨rfl, hb⟩
      have B2 := Lib.hid hb
      clear hb
      go_wp2
      go_ret
      exact ⟨rfl, B2.out⟩
    have d0 : decide ((19 : Int) < (fs.length : Int)) = false := by simp; omega
    by_cases h10 : 10 < us.length
    · have d1 : decide ((10 : Int) < (us.length : Int)) = true := by simp; omega
      go_enter Tryd.func4, Tryd.ntmps4
      go_wp2_with fail
      refine HGr.out.mono ?_
      rintro e w1 ⟨rfl, rfl⟩
      go_wp2_with fail
      refine (awake_any _ HG.out).mono ?_
      rintro e w2 ⟨rfl, hb⟩
      have B2 := Lib.hid hb
      clear hb
      go_wp2
      go_ret
      exact ⟨rfl, B2.out⟩
    have d1 : decide ((10 : Int) < (us.length : Int)) = false := by simp; omega
    go_enter Tryd.func4, Tryd.ntmps4
    go_wp2_with fail
    refine HGr.out.mono ?_
    rintro e w1 ⟨rfl, hw1⟩
    rw [← hw1]
    clear hw1 w1 HGr
    go_wp2_with fail
    have HA := Lib.hid ((Below.refl w.heap.size w).alloc (Nat.le_refl _) (.cells #[] 29))
    go_loopg [7, 8] (fs.length + 1) (fun g l i wr => ∃ (k : Nat) (vs : List Value), g + k = fs.length + 1 ∧ k ≤ fs.length ∧ i = .int .i64 k ∧ Pairs (MadeOf (maskT wr 29)) vs (fs.take k) ∧ wr.ownsRow w.heap.size 29 1 l vs.length vs ∧ Below w.heap.size w wr)
    case atStart => exact ⟨0, [], by omega, by omega, rfl, .nil, World.ownsRow_made w #[] 0 (Nat.le_refl _) (by decide) rfl, HA.out⟩
    case round =>
      obtain ⟨k, vs, hgk, hk, rfl, hpairs, hown, hb⟩ := hrel
      have HB : Hid (Below w.heap.size w wr ∧ wr.ownsRow w.heap.size 29 1 u7 vs.length vs ∧ Pairs (MadeOf (maskT wr 29)) vs (fs.take k) ∧ gk + k = fs.length + 1) := ⟨hb, hown, hpairs, hgk⟩
      clear hb hown hpairs hgk
      by_cases hlt : k < fs.length
      · obtain ⟨b, o, rfl, hfs⟩ := frow_at HF.out (by omega)
        obtain ⟨f, hfk⟩ : ∃ f, fs[k]? = some f := ⟨_, List.getElem?_eq_getElem hlt⟩
        obtain ⟨x0, x1, s, x2, hrows⟩ := (hfs k f hfk).up HB.out.1
        have HRw := Lib.hid hrows
        have HFk := Lib.hid hfk
        have HGf := Lib.hid (HL.out.2 f (List.mem_of_getElem? hfk))
        obtain ⟨vs', ⟨aw, cw, rfl, -, -⟩, -, -⟩ := hrows
        have HTk : Hid (fs.take (k + 1) = fs.take k ++ [f]) := (by
          obtain ⟨hk', rfl⟩ := List.getElem?_eq_some_iff.1 HFk.out
          exact List.take_succ_eq_append_getElem hk' : fs.take (k + 1) = fs.take k ++ [f])
        have HVl : Hid (vs.length + 1 ≤ 1000000) := (by
          have h1 := HB.out.2.2.1.length
          rw [List.length_take] at h1
          omega : vs.length + 1 ≤ 1000000)
        clear hfs hfk
        go_wp2_with fail
        refine (madeM_any _ f _ HRw.out HGf.out).mono ?_
        rintro e w2 ⟨v2, rfl, hM2, hb2⟩
        have HM2 := Lib.hid hM2
        have H2 := Lib.hid hb2
        have hsh : v2 = .nilIface ∨ ∃ t x, v2 = .iface t x := by
          rcases hM2 with ⟨-, h⟩ | ⟨-, h⟩
          · exact .inl h
          · exact .inr h.iface
        have HA2 := Lib.hid ((Below.refl w2.heap.size w2).alloc (Nat.le_refl _) (.cells #[v2] 29))
        have HB2 := Lib.hid (HB.out.1.trans (hb2.mono HB.out.1.size))
        have HO2 := Lib.hid ((owns_up HB.out.2.1 hb2).alloc (.cells #[v2] 29))
        clear hM2 hb2 x0 x1 x2
        rcases hsh with rfl | ⟨t2, z2, rfl⟩
        all_goals (
          go_wp2_with (at_builtin; refine wpList_append_row2 rfl (.tmp 34) (.tmp 40) 40 rfl w.heap.size 29 .nilIface 16 Tryd.underlying40 info29 rfl u7 _ vs _ rfl HO2.out rfl (row_one _ _ _) (fun u hu => by rw [List.mem_singleton.1 hu]; rfl) HVl.out (by decide) w (HB2.out.alloc HB2.out.size _) (Nat.le_refl _) ?_; intro v3 w3 hown3 hb3 hgr3)
          have HP3 := Lib.hid ((HB.out.2.2.1.imp (fun v f h => h.sub (mask_up 29 H2.out))).snoc HM2.out |>.imp (fun v f h => (h.sub (mask_up 29 HA2.out)).sub (mask_grown HO2.out hgr3)))
          have HO3 := Lib.hid hown3
          have HB3 := Lib.hid hb3
          clear hown3 hb3 hgr3
          go_wp2
          go_roundg (gk - 1)
          case measure => have := HB.out.2.2.2; omega
          case rel =>
            refine ⟨k + 1, _, ?_, by omega, by go_num, ?_, HO3.out, HB3.out⟩
            · have := HB.out.2.2.2; omega
            · rw [HTk.out]; exact HP3.out)
      · obtain rfl : k = fs.length := by omega
        have HP := Lib.hid (show Pairs (MadeOf wr) vs fs by
          have h := HB.out.2.2.1
          rw [List.take_length] at h
          exact h.imp (fun v f h => h.sub (sub_mask wr 29)))
        have HRow := Lib.hid (Row.of_owns HB.out.2.1)
        have B0 := Lib.hid HB.out.1
        have HVl := Lib.hid (show vs.length ≤ 1000 by have := HP.out.length; omega)
        have hrw := HRow.out
        obtain ⟨a7, c7, rfl, -, -⟩ := hrw
        clear HB hlt hk
        have e1 := eqlNone
        cases hfz : fs.filter nz with
        | nil =>
          have hvz : vs.filter isErr = [] := by
            have h := mades_filter HP.out
            rw [hfz] at h
            exact List.length_eq_zero_iff.1 h.length
          have HVz := Lib.hid hvz
          have HFz := Lib.hid hfz
          clear hvz hfz
          go_wp2_with fail
          refine (join_any _ vs _ HRow.out (mades_shape HP.out) (by have := HVl.out; omega)).mono ?_
          rintro e w2 ⟨v2, rfl, hb2, hv2, -, -⟩
          obtain rfl := hv2 HVz.out
          have B2 := Lib.hid (B0.out.trans (hb2.mono B0.out.size))
          clear hb2
          go_wp2_with fail
          refine (in_nil _ _ ⟨_, _, _, rfl⟩).mono ?_
          rintro e w' ⟨rfl, hw'⟩
          rw [hw']
          clear hw' w'
          go_wp2_with fail
          refine (first_any _ fs _ (HF.out.up B2.out) (HL.out.1)).mono ?_
          rw [first_none fs 0 HFz.out]
          rintro e w' ⟨rfl, hw'⟩
          rw [← hw']
          clear hw' w'
          go_wp2_with fail
          refine (at_nil _).mono ?_
          rintro e w3 ⟨rfl, hb3⟩
          have B3 := Lib.hid (B2.out.trans (hb3.mono B2.out.size))
          clear hb3
          go_wp2_with fail
          refine (code_nil _).mono ?_
          rintro e w' ⟨rfl, hw'⟩
          rw [hw']
          clear hw' w'
          go_wp2_with fail
          refine (words_nil _).mono ?_
          rintro e w4 ⟨r4, rfl, ⟨a4, c4, rfl, -, -⟩, hb4⟩
          have B4 := Lib.hid (B3.out.trans (hb4.mono B3.out.size))
          clear hb4
          simp only [List.length_nil]
          go_wp2_with fail
          refine (awake_any _ (HG.out.up B4.out)).mono ?_
          rintro e w5 ⟨rfl, hb5⟩
          have B5 := Lib.hid (B4.out.trans (hb5.mono B4.out.size))
          clear hb5
          go_wp2
          go_ret
          exact ⟨rfl, B5.out⟩
        | cons f r =>
          obtain ⟨k, hk1, hk2⟩ := first_some fs 0 f r hfz
          rw [Nat.zero_add] at hk1
          have hmn : manyF fs = r.length + 1 := by rw [many_len, hfz]; rfl
          have hff : f ∈ fs.filter nz := by rw [hfz]; simp
          have hlt : k < fs.length := (List.getElem?_eq_some_iff.1 hk2).1
          have HFz := Lib.hid hfz
          have HK1 := Lib.hid hk1
          have HK2 := Lib.hid hk2
          have HMn := Lib.hid hmn
          have HGf := Lib.hid (HL.out.2 f (List.mem_filter.1 hff).1)
          have HE0 := Lib.hid (show ¬ f.1 = 0 by simpa [nz] using (List.mem_filter.1 hff).2)
          have HUl := Lib.hid (show (us.map Value.string).length ≤ 10 by rw [List.length_map]; omega)
          have HWl := Lib.hid (show (rwords f).length ≤ 100 by
            rw [rwords, if_neg HE0.out]
            have := rev_le HGf.out f.2.2.length
            rw [List.take_length] at this
            exact this)
          obtain ⟨b, o, rfl, hfs⟩ := frow_at HF.out (by omega)
          have HX := Lib.hid (hfs k f hk2)
          have dk : decide ((k : Int) < 0) = false := by simp
          clear hfz hk1 hk2 hmn hff hfs
          go_wp2_with fail
          refine (top_join _ vs fs f r _ HRow.out HP.out HFz.out HVl.out).mono ?_
          rintro e w2 ⟨v2, rfl, hT2, hb2⟩
          obtain ⟨t2, z2, rfl⟩ := hT2.iface
          have HT2 := Lib.hid hT2
          have B2 := Lib.hid (B0.out.trans (hb2.mono B0.out.size))
          clear hb2 hT2
          go_wp2_with fail
          refine (top_in _ _ _ _ _ (us.map Value.string) _ _ HT2.out (HU.out.up B2.out) (strs_one us) (by have := HUl.out; omega)).mono ?_
          rintro e w3 ⟨v3, rfl, hT3, hb3⟩
          obtain ⟨t3, z3, rfl⟩ := hT3.iface
          have HT3 := Lib.hid hT3
          have B3 := Lib.hid (B2.out.trans (hb3.mono B2.out.size))
          clear hb3 hT3
          go_wp2_with fail
          refine (first_any _ fs _ (HF.out.up B3.out) (HL.out.1)).mono ?_
          rw [HK1.out]
          rintro e w' ⟨rfl, hw'⟩
          rw [← hw']
          clear hw' w'
          go_wp2_with fail
          refine (top_at _ _ _ _ _ _ HT3.out (HG.out.up B3.out)).mono ?_
          rintro e w4 ⟨rfl, hb4⟩
          have HT4 := Lib.hid (HT3.out.up hb4)
          have B4 := Lib.hid (B3.out.trans (hb4.mono B3.out.size))
          clear hb4
          have HA4 := Lib.hid ((Below.refl w4.heap.size w4).alloc (Nat.le_refl _) (.cells #[] 9))
          have HUn := Lib.hid (show ([] : List Value).length + (us.map Value.string).length ≤ 1000000 by have := HUl.out; simp only [List.length_nil]; omega)
          go_wp2_with (at_builtin; refine wpList_append_row rfl (.tmp 79) (.tmp 80) 36 rfl w4.heap.size 9 (.string ByteArray.empty) 16 Tryd.underlying36 info9 rfl _ _ [] (us.map Value.string) rfl (World.ownsRow_made w4 #[] 0 (Nat.le_refl _) (by decide) rfl) rfl ((HU.out.up B4.out).up HA4.out) (strs_one us) HUn.out (by decide) w4 HA4.out (Nat.le_refl _) ?_; intro v5 w5 hown5 hb5)
          have HO5 := Lib.hid hown5
          have H45 := Lib.hid hb5
          have B5 := Lib.hid (B4.out.trans (hb5.mono B4.out.size))
          clear hown5 hb5
          obtain ⟨Wt, HWt, HWl2⟩ : ∃ Wt : List ByteArray, Hid ((us.map Value.string ++ if r = [] then (rwords f).map Value.string else []) = Wt.map Value.string ∧ Wt = us ++ if r = [] then rwords f else []) ∧ Hid (Wt.length ≤ 200) := by
            refine ⟨us ++ if r = [] then rwords f else [], ⟨?_, rfl⟩, ?_⟩
            · split
              · rw [List.map_append]
              · simp
            · have h1 := HUl.out
              have h2 := HWl.out
              rw [List.length_map] at h1
              show (us ++ if r = [] then rwords f else []).length ≤ 200
              split
              · rw [List.length_append]; omega
              · rw [List.append_nil]; omega
          rw [HWt.out.1] at HT4
          have HWt3 := Lib.hid (show (Wt.map Value.string).length ≤ 100000 by rw [List.length_map]; have := HWl2.out; omega)
          have HWt4 := Lib.hid (show Wt.length ≤ 1000000 by have := HWl2.out; omega)
          obtain ⟨q0, q1, s, q2, hrows⟩ := HX.out.up B5.out
          have HRw := Lib.hid hrows
          obtain ⟨vs', ⟨aw, cw, rfl, -, -⟩, -, -⟩ := hrows
          have hki : (k : Int) < (fs.length : Int) := by omega
          by_cases hr : r = []
          · have hm1 : manyF fs = 1 := by rw [HMn.out, hr]; rfl
            have HWe := Lib.hid (show Wt = us ++ rwords f by rw [HWt.out.2, if_pos hr])
            have HM1 := Lib.hid hm1
            clear hm1 hr
            refine (many_any _ fs _ (HF.out.up B5.out) (HL.out.1)).mono ?_
            rw [HM1.out]
            rintro e w' ⟨rfl, hw'⟩
            rw [← hw']
            clear hw' w'
            go_wp2_with fail
            refine (rwords_any _ f _ HRw.out HGf.out).mono ?_
            rintro e w6 ⟨r6, rfl, hr6, hb6⟩
            have HO6 := Lib.hid (owns_up HO5.out hb6)
            have H46 := Lib.hid (H45.out.trans (hb6.mono H45.out.size))
            have HR6 := Lib.hid hr6
            obtain ⟨a6, c6, rfl, -, -⟩ := hr6
            rw [List.length_map] at HR6
            rw [List.length_map]
            have HLn := Lib.hid (show (us.map Value.string).length + ((rwords f).map Value.string).length ≤ 1000000 by have h1 := HUl.out; have h2 := HWl.out; simp only [List.length_map] at h1 h2 ⊢; omega)
            clear hb6
            go_wp2_with (at_builtin; refine wpList_append_row rfl (.tmp 85) (.tmp 90) 36 rfl w4.heap.size 9 (.string ByteArray.empty) 16 Tryd.underlying36 info9 rfl _ _ (us.map Value.string) ((rwords f).map Value.string) rfl HO6.out rfl HR6.out (strs_one _) HLn.out (by decide) w4 H46.out (Nat.le_refl _) ?_; intro vW wW hownW hbW)
            have HRW := Lib.hid (show Strs wW vW Wt by rw [HWe.out, Strs, List.map_append]; exact Row.of_owns hownW)
            have H4W := Lib.hid hbW
            clear hownW hbW q0 q1 q2 HR6 HO6 H46 HLn HM1 HWe HO5 H45 B5 HRw
            have BW := Lib.hid (B4.out.trans (H4W.out.mono B4.out.size))
            have Hd := Lib.hid ((Below.refl wW.heap.size wW).drew)
            have Bd := Lib.hid BW.out.drew
            have HTd := Lib.hid ((HT4.out.up H4W.out).up Hd.out)
            have HRd := Lib.hid (HRW.out.up Hd.out)
            obtain ⟨y0, y1, -⟩ := HX.out.up Bd.out
            have S0 := Lib.hid (And.intro y0 y1)
            have n1 : (f.1 != f.1) = false := by simp
            have n2 : (f.2.1 != f.2.1) = false := by simp
            clear y0 y1
            go_region_held3 (fun w' => w'.cell? ⟨b, o + k * 3, none⟩ = some (.int .i64 f.1) ∧ w'.cell? ⟨b, o + k * 3 + 1, none⟩ = some (.int .i64 f.2.1)) (first | exact S0.out | exact S8.out | exact S9.out | exact S10.out)
              (first
                | (go_at_call 11; refine (top_code _ _ _ _ _ _ HTd.out (HG.out.up Bd.out)).mono ?_; rintro e w8 ⟨rfl, hb8⟩; have B8 := Lib.hid (Bd.out.trans (hb8.mono Bd.out.size)); have HT8 := Lib.hid (HTd.out.up hb8); have HR8 := Lib.hid (HRd.out.up hb8); have S8 := Lib.hid (two_up S0.out hb8); clear hb8)
                | (go_at_call 13; refine (top_words _ _ _ _ _ _ HT8.out HWt3.out).mono ?_; rintro e w9 ⟨r9, rfl, hr9, hb9⟩; have B9 := Lib.hid (B8.out.trans (hb9.mono B8.out.size)); have HT9 := Lib.hid (HT8.out.up hb9); have HR9 := Lib.hid (HR8.out.up hb9); have HQ9 := Lib.hid hr9; have S9 := Lib.hid (two_up S8.out hb9); obtain ⟨a9, c9, rfl, -, -⟩ := hr9; rw [List.length_map] at HQ9; rw [List.length_map]; clear hb9)
                | (go_at_call 12; refine (same_any _ _ Wt Wt _ HQ9.out HR9.out HWt4.out).mono ?_; rw [decide_self]; rintro e w10 ⟨rfl, hb10⟩; have B10 := Lib.hid (B9.out.trans (hb10.mono B9.out.size)); have HT10 := Lib.hid (HT9.out.up hb10); have S10 := Lib.hid (two_up S9.out hb10); clear hb10))
            go_wp2_with fail
            have HA10 := Lib.hid ((Below.refl w10.heap.size w10).alloc (Nat.le_refl _) (.cells #[.int .i64 asked] 33))
            refine (top_is _ _ _ _ _ [asked] _ _ (HT10.out.up HA10.out) (row_lit w10 [.int .i64 asked] 33 1 rfl) (by simp)).mono ?_
            rw [← has_eq]
            rintro e w11 ⟨rfl, hb11⟩
            have H1011 := Lib.hid (HA10.out.trans (hb11.mono HA10.out.size))
            have B11 := Lib.hid (B10.out.trans (H1011.out.mono B10.out.size))
            have HT11 := Lib.hid (HT10.out.up H1011.out)
            clear hb11
            have HHas := Lib.hid (has_any _ fs asked _ (HF.out.up B11.out) HL.out.1)
            have yy : (hasF fs asked == hasF fs asked) = true := by simp
            generalize hasF fs asked = y at *
            go_wp2_with fail
            refine HHas.out.mono ?_
            rintro e w' ⟨rfl, hw'⟩
            rw [← hw']
            clear hw' w' HHas
            go_wp2_with fail
            refine (top_is _ _ _ _ _ [] _ _ HT11.out (row_nil _) (by simp)).mono ?_
            rw [asks_none]
            rintro e w12 ⟨rfl, hb12⟩
            have B12 := Lib.hid (B11.out.trans (hb12.mono B11.out.size))
            clear hb12
            go_wp2_with fail
            refine (awake_any _ (HG.out.up B12.out)).mono ?_
            rintro e w13 ⟨rfl, hb13⟩
            have B13 := Lib.hid (B12.out.trans (hb13.mono B12.out.size))
            clear hb13
            go_wp2
            go_ret
            exact ⟨rfl, B13.out⟩
          · have hm1 : ((manyF fs : Int) == 1) = false := by
              rw [HMn.out, beq_eq_false_iff_ne]
              have := List.length_pos_iff.2 hr
              omega
            have HWe := Lib.hid (show Wt = us by rw [HWt.out.2, if_neg hr, List.append_nil])
            clear hr
            refine (many_any _ fs _ (HF.out.up B5.out) (HL.out.1)).mono ?_
            rintro e w' ⟨rfl, hw'⟩
            rw [← hw']
            clear hw' w'
            have HRW := Lib.hid (show Strs w5 v5 Wt by rw [HWe.out, Strs]; exact Row.of_owns HO5.out)
            have H4W := H45
            clear q0 q1 q2 HWe HO5 HRw
            go_wp2_with fail
            have BW := Lib.hid (B4.out.trans (H4W.out.mono B4.out.size))
            have Hd := Lib.hid ((Below.refl w5.heap.size w5).drew)
            have Bd := Lib.hid BW.out.drew
            have HTd := Lib.hid ((HT4.out.up H4W.out).up Hd.out)
            have HRd := Lib.hid (HRW.out.up Hd.out)
            obtain ⟨y0, y1, -⟩ := HX.out.up Bd.out
            have S0 := Lib.hid (And.intro y0 y1)
            have n1 : (f.1 != f.1) = false := by simp
            have n2 : (f.2.1 != f.2.1) = false := by simp
            clear y0 y1
            go_region_held3 (fun w' => w'.cell? ⟨b, o + k * 3, none⟩ = some (.int .i64 f.1) ∧ w'.cell? ⟨b, o + k * 3 + 1, none⟩ = some (.int .i64 f.2.1)) (first | exact S0.out | exact S8.out | exact S9.out | exact S10.out)
              (first
                | (go_at_call 11; refine (top_code _ _ _ _ _ _ HTd.out (HG.out.up Bd.out)).mono ?_; rintro e w8 ⟨rfl, hb8⟩; have B8 := Lib.hid (Bd.out.trans (hb8.mono Bd.out.size)); have HT8 := Lib.hid (HTd.out.up hb8); have HR8 := Lib.hid (HRd.out.up hb8); have S8 := Lib.hid (two_up S0.out hb8); clear hb8)
                | (go_at_call 13; refine (top_words _ _ _ _ _ _ HT8.out HWt3.out).mono ?_; rintro e w9 ⟨r9, rfl, hr9, hb9⟩; have B9 := Lib.hid (B8.out.trans (hb9.mono B8.out.size)); have HT9 := Lib.hid (HT8.out.up hb9); have HR9 := Lib.hid (HR8.out.up hb9); have HQ9 := Lib.hid hr9; have S9 := Lib.hid (two_up S8.out hb9); obtain ⟨a9, c9, rfl, -, -⟩ := hr9; rw [List.length_map] at HQ9; rw [List.length_map]; clear hb9)
                | (go_at_call 12; refine (same_any _ _ Wt Wt _ HQ9.out HR9.out HWt4.out).mono ?_; rw [decide_self]; rintro e w10 ⟨rfl, hb10⟩; have B10 := Lib.hid (B9.out.trans (hb10.mono B9.out.size)); have HT10 := Lib.hid (HT9.out.up hb10); have S10 := Lib.hid (two_up S9.out hb10); clear hb10))
            go_wp2_with fail
            have HA10 := Lib.hid ((Below.refl w10.heap.size w10).alloc (Nat.le_refl _) (.cells #[.int .i64 asked] 33))
            refine (top_is _ _ _ _ _ [asked] _ _ (HT10.out.up HA10.out) (row_lit w10 [.int .i64 asked] 33 1 rfl) (by simp)).mono ?_
            rw [← has_eq]
            rintro e w11 ⟨rfl, hb11⟩
            have H1011 := Lib.hid (HA10.out.trans (hb11.mono HA10.out.size))
            have B11 := Lib.hid (B10.out.trans (H1011.out.mono B10.out.size))
            have HT11 := Lib.hid (HT10.out.up H1011.out)
            clear hb11
            have HHas := Lib.hid (has_any _ fs asked _ (HF.out.up B11.out) HL.out.1)
            have yy : (hasF fs asked == hasF fs asked) = true := by simp
            generalize hasF fs asked = y at *
            go_wp2_with fail
            refine HHas.out.mono ?_
            rintro e w' ⟨rfl, hw'⟩
            rw [← hw']
            clear hw' w' HHas
            go_wp2_with fail
            refine (top_is _ _ _ _ _ [] _ _ HT11.out (row_nil _) (by simp)).mono ?_
            rw [asks_none]
            rintro e w12 ⟨rfl, hb12⟩
            have B12 := Lib.hid (B11.out.trans (hb12.mono B11.out.size))
            clear hb12
            go_wp2_with fail
            refine (awake_any _ (HG.out.up B12.out)).mono ?_
            rintro e w13 ⟨rfl, hb13⟩
            have B13 := Lib.hid (B12.out.trans (hb13.mono B12.out.size))
            clear hb13
            go_wp2
            go_ret
            exact ⟨rfl, B13.out⟩
end Go.Proofs.YtmlmgkaghcnpnaaDoor
