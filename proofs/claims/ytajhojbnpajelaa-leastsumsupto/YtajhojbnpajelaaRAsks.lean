/- Least, Gives, Fits: the document's. -/
import Derived.Test.YtajhojbnpajelaaROf
import Derived.Test.YtajhojbnpajelaaAsks
namespace Go.Proofs.Ytajhojbnpajelaa
open Go.RowKit

/-- Does a tree tile: the document's. -/
theorem rtiles8_any (t : T) (c : C) (w : World) (hi : Is w c t) (hs : sz t ≤ 999) : Calls Try.prog 21 #[cval c] w fun e w' => e = .returned (.bool (tileB t)) ∧ Below w.heap.size w w' := by
  have HA : Hid (Below w.heap.size w (w.alloc (cbox c))) := (Below.refl _ _).alloc (Nat.le_refl _) _
  have hmi := may_is (t := t) (by omega)
  have HCK : Hid (Calls Try.prog 31 #[cval c] (w.alloc (cbox c)) fun e w' => ∃ (v : Value) (no pl : Int), e = .returned (.tuple #[v, .int .i64 no, .int .i64 pl]) ∧ (no == 0) = tileB t ∧ Below w.heap.size w w') := Lib.hid ((rcheck_any t c (w.alloc (cbox c)) (hi.up HA.out) hs).mono fun e w' h => by
    obtain ⟨v, no, pl, l, h1, -, h3, h4⟩ := h
    refine ⟨v, no, pl, h1, ?_, below_one h3⟩
    unfold tileB
    rw [hmi]
    rcases h4 with ⟨a, rfl, -, -⟩ | ⟨a, b, rfl, -, -⟩ | ⟨a, b, rfl, -, -⟩
    · rw [a]; rfl
    · rw [a, b]; rfl
    · rw [a, b]; rfl)
  clear hi hmi
  generalize tileB t = tb at HCK ⊢
  go_enter Try.func21, Try.ntmps21
  go_wp2_with fail
  refine HCK.out.mono ?_
  rintro e w2 ⟨v, no, pl, rfl, hno, hb2⟩
  have B2 := Lib.hid hb2
  clear hb2
  go_wp2
  go_ret
  exact ⟨by first | (rw [hno]; rfl) | rfl, B2.out⟩

theorem ax_tests {ax : Int} : (axB ax = true → decide (ax < 1) = false ∧ decide (2 < ax) = false) := fun h => by
  rcases (axB_iff ax).1 h with rfl | rfl <;> decide
theorem ax_test2 {ax : Int} (h : axB ax = false) : decide (ax < 1) = true ∨ (decide (ax < 1) = false ∧ decide (2 < ax) = true) := by
  have hn : ¬ (ax = 1 ∨ ax = 2) := fun e => by rw [(axB_iff ax).2 e] at h; cases h
  by_cases h1 : ax < 1
  · exact .inl (decide_eq_true h1)
  · exact .inr ⟨decide_eq_false h1, decide_eq_true (by omega)⟩

theorem rlst_any (t : T) (c : C) (ax : Int) (w : World) (hi : Is w c t) (hs : sz t ≤ 20000) : Calls Try.prog 10 #[cval c, .int .u8 ax] w fun e w' => e = .returned (.int .i64 (leT ax t)) ∧ Below w.heap.size w w' := by
  have HA : Hid (Below w.heap.size w (w.alloc (cbox c))) := (Below.refl _ _).alloc (Nat.le_refl _) _
  have HC := Lib.hid (cbox_new w c)
  have HM := Lib.hid (rmayOne_any t c (w.alloc (cbox c)) hs (hi.up HA.out))
  rw [← may_is hs] at HM
  have HI := Lib.hid hi
  clear hi
  cases ha : axB ax with
  | false =>
    have HV := Lib.hid (le_axis (ax := ax) (t := t) ha)
    rcases ax_test2 ha with d1 | ⟨d1, d2⟩
    all_goals
      clear ha
      go_enter Try.func10, Try.ntmps10
      go_wp2
      go_ret
      exact ⟨ret_int HV.out.symm, HA.out⟩
  | true =>
    obtain ⟨d1, d2⟩ := ax_tests ha
    cases hm : mayT t with
    | false =>
      rw [hm] at HM
      have HV := Lib.hid (le_may (ax := ax) hm)
      clear hm ha
      go_enter Try.func10, Try.ntmps10
      go_wp2_with fail
      refine HM.out.mono ?_
      rintro e w2 ⟨rfl, hb2⟩
      have B2 := Lib.hid (HA.out.trans (hb2.mono HA.out.size))
      clear hb2
      go_wp2
      go_ret
      exact ⟨ret_int HV.out.symm, B2.out⟩
    | true =>
      rw [hm] at HM
      have HL := Lib.hid (fun W (h : Is W c t) => rof_any ax (sz t) t c W (Nat.le_refl _) (by omega) h)
      rw [le_yes hm ha]
      clear hm ha
      generalize lsT ax t = ll at HL ⊢
      go_enter Try.func10, Try.ntmps10
      go_wp2_with fail
      refine HM.out.mono ?_
      rintro e w2 ⟨rfl, hb2⟩
      have B2 := Lib.hid (HA.out.trans (hb2.mono HA.out.size))
      obtain ⟨c0, c1, c2, c3, c4, c5, c6⟩ := c7_of (HC.out.up hb2)
      clear hb2
      go_wp2_with fail
      refine (HL.out w2 (HI.out.up B2.out)).mono ?_
      rintro e w4 ⟨rfl, hb4⟩
      have B4 := Lib.hid (B2.out.trans (hb4.mono B2.out.size))
      clear hb4
      go_wp2
      go_ret
      exact ⟨rfl, B4.out⟩

set_option maxRecDepth 100000 in
set_option maxHeartbeats 800000 in
theorem rgiv_any (t : T) (c : C) (ax : Int) (w : World) (hi : Is w c t) (hs : sz t ≤ 999) : Calls Try.prog 12 #[cval c, .int .u8 ax] w fun e w' => e = .returned (.int .i64 (giT ax t)) ∧ Below w.heap.size w w' := by
  have HA : Hid (Below w.heap.size w (w.alloc (cbox c))) := (Below.refl _ _).alloc (Nat.le_refl _) _
  have HC := Lib.hid (cbox_new w c)
  have HM := Lib.hid (rtiles8_any t c (w.alloc (cbox c)) (hi.up HA.out) hs)
  have HCR := Lib.hid hi.split.2.1
  have HI := Lib.hid hi
  clear hi
  cases ha : axB ax with
  | false =>
    have HV := Lib.hid (gi_axis (ax := ax) (t := t) ha)
    rcases ax_test2 ha with d1 | ⟨d1, d2⟩
    all_goals
      clear ha
      go_enter Try.func12, Try.ntmps12
      go_wp2
      go_ret
      exact ⟨ret_int HV.out.symm, HA.out⟩
  | true =>
    obtain ⟨d1, d2⟩ := ax_tests ha
    cases hm : tileB t with
    | false =>
      rw [hm] at HM
      have HV := Lib.hid (gi_tile (ax := ax) hm)
      clear hm ha
      go_enter Try.func12, Try.ntmps12
      go_wp2_with fail
      refine HM.out.mono ?_
      rintro e w2 ⟨rfl, hb2⟩
      have B2 := Lib.hid (HA.out.trans (hb2.mono HA.out.size))
      clear hb2
      go_wp2
      go_ret
      exact ⟨ret_int HV.out.symm, B2.out⟩
    | true =>
      rw [hm] at HM
      have HL := Lib.hid (fun W (h : Is W c t) => rof_any ax (sz t) t c W (Nat.le_refl _) (by omega) h)
      have HZ := Lib.hid (fun W => rsize_any c.r ax W)
      have hr := szA_pos (well_rect (tile_top hs hm).1) ((axB_iff ax).1 ha)
      have h1 := ls_pos ax t
      have h2 : lsT ax t ≤ 2000 := by have := ls_sz ax t; omega
      rw [HCR.out] at hr
      rw [gi_yes hm ha, gvT, HCR.out]
      clear hm ha hs
      generalize lsT ax t = ll at HL h1 h2 ⊢
      have hr1 := hr.1
      have hr2 : szA c.r ax ≤ 10000 := by omega
      clear hr
      generalize szA c.r ax = ss at HZ hr1 hr2 ⊢
      go_enter Try.func12, Try.ntmps12
      go_wp2_with fail
      refine HM.out.mono ?_
      rintro e w2 ⟨rfl, hb2⟩
      have B2 := Lib.hid (HA.out.trans (hb2.mono HA.out.size))
      have D2 := Lib.hid (HC.out.up hb2)
      clear hb2
      have BD := Lib.hid B2.out.drew
      have DD : Hid (CAt w2.drew w.heap.size 0 c) := Lib.hid D2.out
      have S0 := Lib.hid (c7_of DD.out)
      go_wp2_with fail
      go_region_held3 (fun W => W.cell? ⟨w.heap.size, 0, none⟩ = some (.int .u8 c.k) ∧ W.cell? ⟨w.heap.size, 1, none⟩ = some (.int .i64 c.r.x) ∧ W.cell? ⟨w.heap.size, 2, none⟩ = some (.int .i64 c.r.y) ∧ W.cell? ⟨w.heap.size, 3, none⟩ = some (.int .i64 c.r.w) ∧ W.cell? ⟨w.heap.size, 4, none⟩ = some (.int .i64 c.r.h) ∧ W.cell? ⟨w.heap.size, 5, none⟩ = some (.int .i64 c.id) ∧ W.cell? ⟨w.heap.size, 6, none⟩ = some (.slice c.a c.n c.cap)) (first | with_reducible exact S0.out | with_reducible exact S1.out | with_reducible exact S2.out)
        (first
          | (go_at_call 16; (with_reducible refine (HZ.out w2.drew).mono ?_); rintro e y1 ⟨rfl, hb1⟩; have E1 := Lib.hid (BD.out.trans (hb1.mono BD.out.size)); have D1 := Lib.hid (DD.out.up hb1); have S1 := Lib.hid (c7_of (DD.out.up hb1)); clear hb1)
          | (go_at_call 27; (with_reducible refine (HL.out y1 (HI.out.up E1.out)).mono ?_); rintro e y2 ⟨rfl, hb2⟩; have E2 := Lib.hid (E1.out.trans (hb2.mono E1.out.size)); have S2 := Lib.hid (c7_of (D1.out.up hb2)); clear hb2))
      go_wp2
      go_ret
      exact ⟨ret_int (wrap_id (by omega)), E2.out⟩

theorem fits_parts (t : T) (a b : Int) : fits8 t a b = (mayT t && (decide (lsT 1 t ≤ a) && (decide (a ≤ 10000 - t.r.x) && (decide (lsT 2 t ≤ b) && decide (b ≤ 10000 - t.r.y))))) := by
  have e1 : atA t.r 1 = t.r.x := rfl
  have e2 : atA t.r 2 = t.r.y := rfl
  unfold fits8 roomB
  rw [e1, e2]
  simp only [Bool.and_assoc]

set_option maxRecDepth 100000 in
set_option maxHeartbeats 1600000 in
theorem rfits8_any (t : T) (c : C) (a b : Int) (w : World) (hi : Is w c t) (hs : sz t ≤ 20000) : Calls Try.prog 14 #[cval c, .int .i64 a, .int .i64 b] w fun e w' => e = .returned (.bool (fits8 t a b)) ∧ Below w.heap.size w w' := by
  have HA : Hid (Below w.heap.size w (w.alloc (cbox c))) := (Below.refl _ _).alloc (Nat.le_refl _) _
  have HC := Lib.hid (cbox_new w c)
  have HM := Lib.hid (rmayOne_any t c (w.alloc (cbox c)) hs (hi.up HA.out))
  rw [← may_is hs] at HM
  have HI := Lib.hid hi
  have hv := Lib.hid (fits_parts t a b)
  rw [hi.split.2.1] at hv
  have H1 := Lib.hid (fun W (h : Is W c t) => rof_any 1 (sz t) t c W (Nat.le_refl _) (by omega) h)
  have H2 := Lib.hid (fun W (h : Is W c t) => rof_any 2 (sz t) t c W (Nat.le_refl _) (by omega) h)
  generalize fits8 t a b = fb at hv ⊢
  cases hm : mayT t with
  | false =>
    rw [hm] at HM hv
    clear hm hi
    go_enter Try.func14, Try.ntmps14
    go_wp2_with fail
    refine HM.out.mono ?_
    rintro e w2 ⟨rfl, hb2⟩
    have B2 := Lib.hid (HA.out.trans (hb2.mono HA.out.size))
    clear hb2
    go_wp2
    go_ret
    exact ⟨by rw [hv.out]; rfl, B2.out⟩
  | true =>
    have hw : wellT t = true := by
      rw [may_is hs] at hm
      exact rmay_well hm (by rw [preT_eq]; exact List.mem_cons_self ..)
    have hr := may_rect (well_rect hw)
    rw [hi.split.2.1] at hr
    have hx : 0 ≤ c.r.x ∧ c.r.x ≤ 10000 := by omega
    have hy : 0 ≤ c.r.y ∧ c.r.y ≤ 10000 := by omega
    rw [hm] at HM hv
    clear hm hi hw hr
    generalize lsT 1 t = l1 at H1 hv
    generalize lsT 2 t = l2 at H2 hv
    rcases bool_cases (decide (l1 ≤ a)) with d1 | d1
    · rcases bool_cases (decide (a ≤ 10000 - c.r.x)) with d2 | d2
      · rcases bool_cases (decide (l2 ≤ b)) with d3 | d3
        · rcases bool_cases (decide (b ≤ 10000 - c.r.y)) with d4 | d4
          all_goals
            rw [d1, d2, d3, d4] at hv
            go_enter Try.func14, Try.ntmps14
            go_wp2_with fail
            refine HM.out.mono ?_
            rintro e w2 ⟨rfl, hb2⟩
            have B2 := Lib.hid (HA.out.trans (hb2.mono HA.out.size))
            have D2 := Lib.hid (HC.out.up hb2)
            obtain ⟨c0, c1, c2, c3, c4, c5, c6⟩ := c7_of D2.out
            clear hb2
            go_wp2_with fail
            refine (H1.out w2 (HI.out.up B2.out)).mono ?_
            rintro e w3 ⟨rfl, hb3⟩
            have B3 := Lib.hid (B2.out.trans (hb3.mono B2.out.size))
            have D3 := Lib.hid (D2.out.up hb3)
            clear hb3 c0 c1 c2 c3 c4 c5 c6
            obtain ⟨c0, c1, c2, c3, c4, c5, c6⟩ := c7_of D3.out
            go_wp2_with fail
            refine (H2.out w3 (HI.out.up B3.out)).mono ?_
            rintro e w4 ⟨rfl, hb4⟩
            have B4 := Lib.hid (B3.out.trans (hb4.mono B3.out.size))
            have D4 := Lib.hid (D3.out.up hb4)
            clear hb4 c0 c1 c2 c3 c4 c5 c6
            obtain ⟨c0, c1, c2, c3, c4, c5, c6⟩ := c7_of D4.out
            go_wp2
            go_ret
            exact ⟨by rw [hv.out]; rfl, B4.out⟩
        · have HF : Hid (fb = false) := Lib.hid (by rw [hv.out, d1, d2, d3]; rfl)
          clear hv
          go_enter Try.func14, Try.ntmps14
          go_wp2_with fail
          refine HM.out.mono ?_
          rintro e w2 ⟨rfl, hb2⟩
          have B2 := Lib.hid (HA.out.trans (hb2.mono HA.out.size))
          have D2 := Lib.hid (HC.out.up hb2)
          obtain ⟨c0, c1, c2, c3, c4, c5, c6⟩ := c7_of D2.out
          clear hb2
          go_wp2_with fail
          refine (H1.out w2 (HI.out.up B2.out)).mono ?_
          rintro e w3 ⟨rfl, hb3⟩
          have B3 := Lib.hid (B2.out.trans (hb3.mono B2.out.size))
          have D3 := Lib.hid (D2.out.up hb3)
          clear hb3 c0 c1 c2 c3 c4 c5 c6
          obtain ⟨c0, c1, c2, c3, c4, c5, c6⟩ := c7_of D3.out
          go_wp2_with fail
          refine (H2.out w3 (HI.out.up B3.out)).mono ?_
          rintro e w4 ⟨rfl, hb4⟩
          have B4 := Lib.hid (B3.out.trans (hb4.mono B3.out.size))
          clear hb4 c0 c1 c2 c3 c4 c5 c6
          go_wp2
          go_ret
          exact ⟨by rw [HF.out]; rfl, B4.out⟩
      · have HF : Hid (fb = false) := Lib.hid (by rw [hv.out, d1, d2]; rfl)
        clear hv
        go_enter Try.func14, Try.ntmps14
        go_wp2_with fail
        refine HM.out.mono ?_
        rintro e w2 ⟨rfl, hb2⟩
        have B2 := Lib.hid (HA.out.trans (hb2.mono HA.out.size))
        have D2 := Lib.hid (HC.out.up hb2)
        obtain ⟨c0, c1, c2, c3, c4, c5, c6⟩ := c7_of D2.out
        clear hb2
        go_wp2_with fail
        refine (H1.out w2 (HI.out.up B2.out)).mono ?_
        rintro e w3 ⟨rfl, hb3⟩
        have B3 := Lib.hid (B2.out.trans (hb3.mono B2.out.size))
        have D3 := Lib.hid (D2.out.up hb3)
        clear hb3 c0 c1 c2 c3 c4 c5 c6
        obtain ⟨c0, c1, c2, c3, c4, c5, c6⟩ := c7_of D3.out
        go_wp2
        go_ret
        exact ⟨by rw [HF.out]; rfl, B3.out⟩
    · have HF : Hid (fb = false) := Lib.hid (by rw [hv.out, d1]; rfl)
      clear hv
      go_enter Try.func14, Try.ntmps14
      go_wp2_with fail
      refine HM.out.mono ?_
      rintro e w2 ⟨rfl, hb2⟩
      have B2 := Lib.hid (HA.out.trans (hb2.mono HA.out.size))
      have D2 := Lib.hid (HC.out.up hb2)
      obtain ⟨c0, c1, c2, c3, c4, c5, c6⟩ := c7_of D2.out
      clear hb2
      go_wp2_with fail
      refine (H1.out w2 (HI.out.up B2.out)).mono ?_
      rintro e w3 ⟨rfl, hb3⟩
      have B3 := Lib.hid (B2.out.trans (hb3.mono B2.out.size))
      clear hb3 c0 c1 c2 c3 c4 c5 c6
      go_wp2
      go_ret
      exact ⟨by rw [HF.out]; rfl, B3.out⟩
end Go.Proofs.Ytajhojbnpajelaa
