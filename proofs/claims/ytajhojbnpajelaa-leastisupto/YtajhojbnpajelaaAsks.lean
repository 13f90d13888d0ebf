/- Least, Gives, Fits: the program's. -/
import Derived.Test.YtajhojbnpajelaaLs
import Derived.Deep.RegionHeld3
namespace Go.Proofs.Ytajhojbnpajelaa
open Go.RowKit

abbrev C7 (b : Nat) (c : C) (W : World) : Prop := W.cell? ⟨b, 0, none⟩ = some (.int .u8 c.k) ∧ W.cell? ⟨b, 1, none⟩ = some (.int .i64 c.r.x) ∧ W.cell? ⟨b, 2, none⟩ = some (.int .i64 c.r.y) ∧ W.cell? ⟨b, 3, none⟩ = some (.int .i64 c.r.w) ∧ W.cell? ⟨b, 4, none⟩ = some (.int .i64 c.r.h) ∧ W.cell? ⟨b, 5, none⟩ = some (.int .i64 c.id) ∧ W.cell? ⟨b, 6, none⟩ = some (.slice c.a c.n c.cap)
theorem c7_of {W : World} {b : Nat} {c : C} (h : CAt W b 0 c) : C7 b c W := by
  obtain ⟨c0, c1, c2, c3, c4, c5, c6⟩ := h
  simp only [Nat.zero_add] at c1 c2 c3 c4 c5 c6
  exact ⟨c0, c1, c2, c3, c4, c5, c6⟩

def leT (ax : Int) (t : T) : Int := if mayT t = true ∧ axB ax = true then lsT ax t else 0
theorem le_yes {ax : Int} {t : T} (h : mayT t = true) (ha : axB ax = true) : leT ax t = lsT ax t := if_pos ⟨h, ha⟩
theorem le_may {ax : Int} {t : T} (h : mayT t = false) : leT ax t = 0 := if_neg (fun e => by rw [h] at e; cases e.1)
theorem le_axis {ax : Int} {t : T} (h : axB ax = false) : leT ax t = 0 := if_neg (fun e => by rw [h] at e; cases e.2)
noncomputable def giT (ax : Int) (t : T) : Int := if tileB t = true ∧ axB ax = true then gvT ax t else 0
theorem gi_yes {ax : Int} {t : T} (h : tileB t = true) (ha : axB ax = true) : giT ax t = gvT ax t := if_pos ⟨h, ha⟩
theorem gi_tile {ax : Int} {t : T} (h : tileB t = false) : giT ax t = 0 := if_neg (fun e => by rw [h] at e; cases e.1)
theorem gi_axis {ax : Int} {t : T} (h : axB ax = false) : giT ax t = 0 := if_neg (fun e => by rw [h] at e; cases e.2)
def roomB (ax s : Int) (t : T) : Bool := decide (lsT ax t ≤ s) && decide (s ≤ 10000 - atA t.r ax)
def fits8 (t : T) (w h : Int) : Bool := mayT t && roomB 1 w t && roomB 2 h t

/-- May, of one. -/
theorem may8_any (t : T) (c : C) (w : World) (hi : Is w c t) (n : Nat) (hn : n = w.heap.size) :
    Calls Try.prog 23 #[.slice (some ⟨n, 0, none⟩) 1 1] (w.alloc (cbox c)) fun e w' => e = .returned (.bool (mayT t)) ∧ Below w.heap.size w w' := by
  subst hn
  refine (mayAll_any _ [t] _ (trow1 hi) (by simp)).mono ?_
  rintro e w' ⟨rfl, hb⟩
  exact ⟨by simp, below_one hb⟩

theorem lst_any (t : T) (c : C) (ax : Int) (w : World) (hi : Is w c t) : Calls Try.prog 9 #[cval c, .int .u8 ax] w fun e w' => e = .returned (.int .i64 (leT ax t)) ∧ Below w.heap.size w w' := by
  have HA : Hid (Below w.heap.size w (w.alloc (cbox c))) := (Below.refl _ _).alloc (Nat.le_refl _) _
  have HC := Lib.hid (cbox_new w c)
  have HM := Lib.hid (may8_any t c (w.alloc (cbox c)) (hi.up HA.out) (w.heap.size + 1) (by simp))
  have HI := Lib.hid hi
  clear hi
  cases hm : mayT t with
  | false =>
    rw [hm] at HM
    have HV := Lib.hid (le_may (ax := ax) hm)
    clear hm
    go_enter Try.func9, Try.ntmps9
    go_wp2_with fail
    refine HM.out.mono ?_
    rintro e w2 ⟨rfl, hb2⟩
    have B2 := Lib.hid (HA.out.trans (hb2.mono HA.out.size))
    clear hb2
    go_wp2
    go_ret
    exact ⟨ret_int HV.out.symm, B2.out⟩
  | true =>
    rw [hm] at HM
    cases ha : axB ax with
    | false =>
      have HV := Lib.hid (le_axis (ax := ax) (t := t) ha)
      have HX := Lib.hid (fun W => isAxis_any ax W)
      rw [ha] at HX
      clear hm ha
      go_enter Try.func9, Try.ntmps9
      go_wp2_with fail
      refine HM.out.mono ?_
      rintro e w2 ⟨rfl, hb2⟩
      have B2 := Lib.hid (HA.out.trans (hb2.mono HA.out.size))
      clear hb2
      go_wp2_with fail
      refine (HX.out w2).mono ?_
      rintro e w3 ⟨rfl, rfl⟩
      go_wp2
      go_ret
      exact ⟨ret_int HV.out.symm, B2.out⟩
    | true =>
      have HX := Lib.hid (fun W => isAxis_any ax W)
      rw [ha] at HX
      have HL := Lib.hid (fun W (h : Is W c t) => least_any ax (sz t) t c W (Nat.le_refl _) (by have := may_small hm; omega) (ok_may hm) h)
      rw [le_yes hm ha]
      clear hm ha
      generalize lsT ax t = ll at HL ⊢
      go_enter Try.func9, Try.ntmps9
      go_wp2_with fail
      refine HM.out.mono ?_
      rintro e w2 ⟨rfl, hb2⟩
      have B2 := Lib.hid (HA.out.trans (hb2.mono HA.out.size))
      obtain ⟨c0, c1, c2, c3, c4, c5, c6⟩ := c7_of (HC.out.up hb2)
      clear hb2
      go_wp2_with fail
      refine (HX.out w2).mono ?_
      rintro e w3 ⟨rfl, rfl⟩
      go_wp2_with fail
      refine (HL.out w2 (HI.out.up B2.out)).mono ?_
      rintro e w4 ⟨rfl, hb4⟩
      have B4 := Lib.hid (B2.out.trans (hb4.mono B2.out.size))
      clear hb4
      go_wp2
      go_ret
      exact ⟨rfl, B4.out⟩

set_option maxRecDepth 100000 in
set_option maxHeartbeats 800000 in
theorem giv_any (t : T) (c : C) (ax : Int) (w : World) (hi : Is w c t) (hs : mayT t = true → sz t ≤ 999) : Calls Try.prog 11 #[cval c, .int .u8 ax] w fun e w' => e = .returned (.int .i64 (giT ax t)) ∧ Below w.heap.size w w' := by
  have HA : Hid (Below w.heap.size w (w.alloc (cbox c))) := (Below.refl _ _).alloc (Nat.le_refl _) _
  have HC := Lib.hid (cbox_new w c)
  have HM := Lib.hid (tilesOne_any t c (w.alloc (cbox c)) (hi.up HA.out) hs (w.heap.size + 1) (by simp))
  have HCR := Lib.hid hi.split.2.1
  have HI := Lib.hid hi
  clear hi
  cases hm : tileB t with
  | false =>
    rw [hm] at HM
    have HV := Lib.hid (gi_tile (ax := ax) hm)
    clear hm
    go_enter Try.func11, Try.ntmps11
    go_wp2_with fail
    refine HM.out.mono ?_
    rintro e w2 ⟨rfl, hb2⟩
    have B2 := Lib.hid (HA.out.trans (hb2.mono HA.out.size))
    clear hb2
    go_wp2
    go_ret
    exact ⟨ret_int HV.out.symm, B2.out⟩
  | true =>
    rw [hm] at HM
    cases ha : axB ax with
    | false =>
      have HV := Lib.hid (gi_axis (ax := ax) (t := t) ha)
      have HX := Lib.hid (fun W => isAxis_any ax W)
      rw [ha] at HX
      clear hm ha
      go_enter Try.func11, Try.ntmps11
      go_wp2_with fail
      refine HM.out.mono ?_
      rintro e w2 ⟨rfl, hb2⟩
      have B2 := Lib.hid (HA.out.trans (hb2.mono HA.out.size))
      clear hb2
      go_wp2_with fail
      refine (HX.out w2).mono ?_
      rintro e w3 ⟨rfl, rfl⟩
      go_wp2
      go_ret
      exact ⟨ret_int HV.out.symm, B2.out⟩
    | true =>
      have HX := Lib.hid (fun W => isAxis_any ax W)
      rw [ha] at HX
      have hmy := tile_may hm
      have HL := Lib.hid (fun W (h : Is W c t) => least_any ax (sz t) t c W (Nat.le_refl _) (by have := may_small hmy; omega) (ok_may hmy) h)
      have HZ := Lib.hid (fun W => size_any c.r ax W)
      have hr := szA_pos (well_rect (tile_top (hs hmy) hm).1) ((axB_iff ax).1 ha)
      have h1 := ls_pos ax t
      have h2 : lsT ax t ≤ 2000 := by have := ls_sz ax t; have := hs hmy; omega
      rw [HCR.out] at hr
      rw [gi_yes hm ha, gvT, HCR.out]
      clear hm ha hmy hs
      generalize lsT ax t = ll at HL h1 h2 ⊢
      have hr1 := hr.1
      have hr2 : szA c.r ax ≤ 10000 := by omega
      clear hr
      generalize szA c.r ax = ss at HZ hr1 hr2 ⊢
      go_enter Try.func11, Try.ntmps11
      go_wp2_with fail
      refine HM.out.mono ?_
      rintro e w2 ⟨rfl, hb2⟩
      have B2 := Lib.hid (HA.out.trans (hb2.mono HA.out.size))
      have D2 := Lib.hid (HC.out.up hb2)
      clear hb2
      go_wp2_with fail
      refine (HX.out w2).mono ?_
      rintro e w3 ⟨rfl, rfl⟩
      have BD := Lib.hid B2.out.drew
      have DD : Hid (CAt w2.drew w.heap.size 0 c) := Lib.hid D2.out
      have S0 := Lib.hid (c7_of DD.out)
      go_wp2_with fail
      go_region_held3 (fun W => W.cell? ⟨w.heap.size, 0, none⟩ = some (.int .u8 c.k) ∧ W.cell? ⟨w.heap.size, 1, none⟩ = some (.int .i64 c.r.x) ∧ W.cell? ⟨w.heap.size, 2, none⟩ = some (.int .i64 c.r.y) ∧ W.cell? ⟨w.heap.size, 3, none⟩ = some (.int .i64 c.r.w) ∧ W.cell? ⟨w.heap.size, 4, none⟩ = some (.int .i64 c.r.h) ∧ W.cell? ⟨w.heap.size, 5, none⟩ = some (.int .i64 c.id) ∧ W.cell? ⟨w.heap.size, 6, none⟩ = some (.slice c.a c.n c.cap)) (first | with_reducible exact S0.out | with_reducible exact S1.out | with_reducible exact S2.out)
        (first
          | (go_at_call 15; (with_reducible refine (HZ.out w2.drew).mono ?_); rintro e y1 ⟨rfl, hb1⟩; have E1 := Lib.hid (BD.out.trans (hb1.mono BD.out.size)); have D1 := Lib.hid (DD.out.up hb1); have S1 := Lib.hid (c7_of (DD.out.up hb1)); clear hb1)
          | (go_at_call 25; (with_reducible refine (HL.out y1 (HI.out.up E1.out)).mono ?_); rintro e y2 ⟨rfl, hb2⟩; have E2 := Lib.hid (E1.out.trans (hb2.mono E1.out.size)); have S2 := Lib.hid (c7_of (D1.out.up hb2)); clear hb2))
      go_wp2
      go_ret
      exact ⟨ret_int (wrap_id (by omega)), E2.out⟩

theorem room_any (t : T) (c : C) (ax s : Int) (w : World) (hi : Is w c t) (hm : mayT t = true) (hax : ax = 1 ∨ ax = 2) : Calls Try.prog 29 #[cval c, .int .u8 ax, .int .i64 s] w fun e w' => e = .returned (.bool (roomB ax s t)) ∧ Below w.heap.size w w' := by
  have HA : Hid (Below w.heap.size w (w.alloc (cbox c))) := (Below.refl _ _).alloc (Nat.le_refl _) _
  have HC := Lib.hid (cbox_new w c)
  have HL := Lib.hid (least_any ax (sz t) t c (w.alloc (cbox c)) (Nat.le_refl _) (by have := may_small hm; omega) (ok_may hm) (hi.up HA.out))
  have HK := Lib.hid (fun W => look_any c ax W)
  have hx := look_x c ax
  have hw : wellT t = true := by
    rw [may_is (may_small hm)] at hm
    exact rmay_well hm (by rw [preT_eq]; exact List.mem_cons_self ..)
  have hr := szA_pos (well_rect hw) hax
  have hv : Hid (roomB ax s t = (decide (lsT ax t ≤ s) && decide (s ≤ 10000 - atA t.r ax))) := Lib.hid rfl
  rw [hi.split.2.1] at hr hv
  have hr2 : 0 ≤ atA c.r ax ∧ atA c.r ax ≤ 10000 := by omega
  clear hr hw hm hi hax
  generalize lsT ax t = ll at HL hv
  generalize roomB ax s t = rb at hv ⊢
  generalize lookC c ax = d at HK hx
  generalize atA c.r ax = q at hx hv hr2
  subst hx
  have f1 := field_rect d
  have f2 := field_x d.r
  rcases bool_cases (decide (ll ≤ s)) with d1 | d1
  · rcases bool_cases (decide (s ≤ 10000 - d.r.x)) with d2 | d2
    all_goals
      rw [d1, d2] at hv
      go_enter Try.func29, Try.ntmps29
      go_wp2_with fail
      refine HL.out.mono ?_
      rintro e w2 ⟨rfl, hb2⟩
      have B2 := Lib.hid (HA.out.trans (hb2.mono HA.out.size))
      obtain ⟨c0, c1, c2, c3, c4, c5, c6⟩ := c7_of (HC.out.up hb2)
      clear hb2
      go_wp2_with fail
      refine (HK.out w2).mono ?_
      rintro e w3 ⟨rfl, hb3⟩
      have B3 := Lib.hid (B2.out.trans (hb3.mono B2.out.size))
      clear hb3 c0 c1 c2 c3 c4 c5 c6
      go_wp2
      go_ret
      exact ⟨by rw [hv.out]; rfl, B3.out⟩
  · have HF : Hid (rb = false) := Lib.hid (by rw [hv.out, d1]; rfl)
    clear hv
    go_enter Try.func29, Try.ntmps29
    go_wp2_with fail
    refine HL.out.mono ?_
    rintro e w2 ⟨rfl, hb2⟩
    have B2 := Lib.hid (HA.out.trans (hb2.mono HA.out.size))
    clear hb2
    go_wp2
    go_ret
    exact ⟨by rw [HF.out]; rfl, B2.out⟩

theorem fits8_any (t : T) (c : C) (a b : Int) (w : World) (hi : Is w c t) : Calls Try.prog 13 #[cval c, .int .i64 a, .int .i64 b] w fun e w' => e = .returned (.bool (fits8 t a b)) ∧ Below w.heap.size w w' := by
  have HA : Hid (Below w.heap.size w (w.alloc (cbox c))) := (Below.refl _ _).alloc (Nat.le_refl _) _
  have HC := Lib.hid (cbox_new w c)
  have HM := Lib.hid (may8_any t c (w.alloc (cbox c)) (hi.up HA.out) (w.heap.size + 1) (by simp))
  have HI := Lib.hid hi
  have hv : Hid (fits8 t a b = (mayT t && roomB 1 a t && roomB 2 b t)) := Lib.hid rfl
  clear hi
  generalize fits8 t a b = fb at hv ⊢
  cases hm : mayT t with
  | false =>
    rw [hm] at HM hv
    clear hm
    go_enter Try.func13, Try.ntmps13
    go_wp2_with fail
    refine HM.out.mono ?_
    rintro e w2 ⟨rfl, hb2⟩
    have B2 := Lib.hid (HA.out.trans (hb2.mono HA.out.size))
    clear hb2
    go_wp2
    go_ret
    exact ⟨by rw [hv.out]; rfl, B2.out⟩
  | true =>
    have H1 := Lib.hid (fun W (h : Is W c t) => room_any t c 1 a W h hm (.inl rfl))
    have H2 := Lib.hid (fun W (h : Is W c t) => room_any t c 2 b W h hm (.inr rfl))
    rw [hm] at HM hv
    clear hm
    generalize roomB 1 a t = r1 at H1 hv
    generalize roomB 2 b t = r2 at H2 hv
    cases r1 with
    | false =>
      go_enter Try.func13, Try.ntmps13
      go_wp2_with fail
      refine HM.out.mono ?_
      rintro e w2 ⟨rfl, hb2⟩
      have B2 := Lib.hid (HA.out.trans (hb2.mono HA.out.size))
      obtain ⟨c0, c1, c2, c3, c4, c5, c6⟩ := c7_of (HC.out.up hb2)
      clear hb2
      go_wp2_with fail
      refine (H1.out w2 (HI.out.up B2.out)).mono ?_
      rintro e w3 ⟨rfl, hb3⟩
      have B3 := Lib.hid (B2.out.trans (hb3.mono B2.out.size))
      clear hb3 c0 c1 c2 c3 c4 c5 c6
      go_wp2
      go_ret
      exact ⟨by rw [hv.out]; rfl, B3.out⟩
    | true =>
      go_enter Try.func13, Try.ntmps13
      go_wp2_with fail
      refine HM.out.mono ?_
      rintro e w2 ⟨rfl, hb2⟩
      have B2 := Lib.hid (HA.out.trans (hb2.mono HA.out.size))
      have D2 := Lib.hid (HC.out.up hb2)
      obtain ⟨c0, c1, c2, c3, c4, c5, c6⟩ := c7_of D2.out
      clear hb2
      go_wp2_with fail
      refine (H1.out w2 (HI.out.up B2.out)).mono ?_
      rintro e w3 ⟨rfl, hb3⟩
      have B3 := Lib.hid (B2.out.trans (hb3.mono B2.out.size))
      clear c0 c1 c2 c3 c4 c5 c6
      obtain ⟨c0, c1, c2, c3, c4, c5, c6⟩ := c7_of (D2.out.up hb3)
      clear hb3
      go_wp2_with fail
      refine (H2.out w3 (HI.out.up B3.out)).mono ?_
      rintro e w4 ⟨rfl, hb4⟩
      have B4 := Lib.hid (B3.out.trans (hb4.mono B3.out.size))
      clear hb4 c0 c1 c2 c3 c4 c5 c6
      go_wp2
      go_ret
      exact ⟨by rw [hv.out]; simp, B4.out⟩
end Go.Proofs.Ytajhojbnpajelaa
