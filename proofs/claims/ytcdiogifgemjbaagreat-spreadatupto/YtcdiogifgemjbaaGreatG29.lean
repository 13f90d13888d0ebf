/- Texts of this seat, 3 in one file. -/
import Derived.Test.YtcdiogifgemjbaaGreatG28
import Derived.Test.YtcdiogifgemjbaaGreatG23
import Derived.Test.YtcdiogifgemjbaaGreatG26
import Derived.Test.YtcdiogifgemjbaaGreatG27
/- Least, Gives, Fits: the document's. -/
namespace Go.Proofs.YtcdiogifgemjbaaGreat
open Go.RowKit

/-- Does a tree tile: the document's. -/
theorem rtiles8_any (t : T) (c : C) (w : World) (hi : Is w c t) (hs : sz t ≤ 20000) : Calls Tryz.prog 21 #[cval c] w fun e w' => e = .returned (.bool (tileB t)) ∧ Below w.heap.size w w' := by
  have HA : Hid (Below w.heap.size w (w.alloc (cbox c))) := (Below.refl _ _).alloc (Nat.le_refl _) _
  have hmi := may_is (t := t) (by omega)
  have HCK : Hid (Calls Tryz.prog 36 #[cval c] (w.alloc (cbox c)) fun e w' => ∃ (v : Value) (no pl : Int), e = .returned (.tuple #[v, .int .i64 no, .int .i64 pl]) ∧ (no == 0) = tileB t ∧ Below w.heap.size w w') := Lib.hid ((rcheck_any t c (w.alloc (cbox c)) (hi.up HA.out) hs).mono fun e w' h => by
    obtain ⟨v, no, pl, l, h1, -, h3, h4⟩ := h
    refine ⟨v, no, pl, h1, ?_, below_one h3⟩
    unfold tileB
    rw [hmi]
    rcases h4 with ⟨a, rfl, -, -⟩ | ⟨a, b, rfl, -, -⟩ | ⟨a, b, rfl, -, -⟩
    · rw [a]; rfl
    · rw [a, b]; rfl
    · rw [a, b]; rfl)
  clear hi hmi
  generalize tileB t = tb at HCK ⊢
  go_enter Tryz.func21, Tryz.ntmps21
  go_wp2_with fail
  refine HCK.out.mono ?_
  rintro e w2 ⟨v, no, pl, rfl, hno, hb2⟩
  have B2 := Lib.hid hb2
  clear hb2
  go_wp2
  go_ret
  exact ⟨by first | (rw [hno]; rfl) | rfl, B2.out⟩

theorem ax_tests {ax : Int} : (axB ax = true → decide (ax < 1) = false ∧ decide (2 < ax) = false) := fun h => by
  rcases (axB_iff ax).1 h with rfl | rfl <;> decide
theorem ax_test2 {ax : Int} (h : axB ax = false) : decide (ax < 1) = true ∨ (decide (ax < 1) = false ∧ decide (2 < ax) = true) := by
  have hn : ¬ (ax = 1 ∨ ax = 2) := fun e => by rw [(axB_iff ax).2 e] at h; cases h
  by_cases h1 : ax < 1
  · exact .inl (decide_eq_true h1)
  · exact .inr ⟨decide_eq_false h1, decide_eq_true (by omega)⟩

theorem fits_parts (t : T) (a b : Int) : fits8 t a b = (mayT t && (decide (lsT 1 t ≤ a) && (decide (a ≤ 10000 - t.r.x) && (decide (lsT 2 t ≤ b) && decide (b ≤ 10000 - t.r.y))))) := by
  have e1 : atA t.r 1 = t.r.x := rfl
  have e2 : atA t.r 2 = t.r.y := rfl
  unfold fits8 roomB
  rw [e1, e2]
  simp only [Bool.and_assoc]

end Go.Proofs.YtcdiogifgemjbaaGreat
/- A cell that can be adjusted: the document's answer. -/
namespace Go.Proofs.YtcdiogifgemjbaaGreat
open Go.RowKit

abbrev CellsT (W : World) (b o : Nat) (c : C) : Prop := W.cell? ⟨b, o, none⟩ = some (.int .u8 c.k) ∧ W.cell? ⟨b, o + 1, none⟩ = some (.int .i64 c.r.x) ∧ W.cell? ⟨b, o + 2, none⟩ = some (.int .i64 c.r.y) ∧ W.cell? ⟨b, o + 3, none⟩ = some (.int .i64 c.r.w) ∧ W.cell? ⟨b, o + 4, none⟩ = some (.int .i64 c.r.h) ∧ W.cell? ⟨b, o + 5, none⟩ = some (.int .i64 c.id) ∧ W.cell? ⟨b, o + 6, none⟩ = some (.slice c.a c.n c.cap)
theorem Grove.lower {E : World → Prop} {w : World} {base base' : Nat} {v : Value} {cs : List C} {l : List T} (h : Grove E w base v cs l) (hb : base' ≤ base) : Grove E w base' v cs l :=
  ⟨h.row.lower hb, h.len, fun j x t hx ht => by
    obtain ⟨lo, hi, a1, a2, a3, a4⟩ := h.each j x t hx ht
    exact ⟨lo, hi, Nat.le_trans hb a1, a2, a3, a4⟩⟩
theorem adjx_up {w W W' : World} {v : Value} {b o : Nat} {z : C} (h : W.cell? ⟨w.heap.size, 6, none⟩ = some v ∧ CellsT W b o z) (hb : Below W.heap.size W W') : W'.cell? ⟨w.heap.size, 6, none⟩ = some v ∧ CellsT W' b o z := by
  have h2 : CAt W b o z := h.2
  exact ⟨(hb.cell (lt_of_cell h.1)).trans h.1, h2.up hb⟩
theorem adjx_w {w W : World} {b o : Nat} {c z : C} (h1 : Below w.heap.size w W) (hbx : Box7 (cellW w c) w.heap.size c) (hb : Below (cellW w c).heap.size (cellW w c) W) (hz : CAt w b o z) : W.cell? ⟨w.heap.size, 6, none⟩ = some (.slice c.a c.n c.cap) ∧ CellsT W b o z :=
  ⟨(c7_of (hbx.up hb).cat).2.2.2.2.2.2, hz.up h1⟩

set_option maxHeartbeats 4000000 in
set_option maxRecDepth 100000 in
theorem radj1_any (N : Nat) : ∀ (t : T) (c : C) (b : Int) (w : World), sz t ≤ N → sz t ≤ 990 → tileB t = true → canB 1 b t → Is w c t → Calls Tryz.prog 59 #[cval c, .int .u8 1, .int .i64 b] w (GrSays (fun _ => True) (adjT 1 b t) w) := by
  induction N with
  | zero => intro t c b w h; have := sz_pos t; omega
  | succ N ih =>
    intro t c b w hs hm ht hb hi
    have hax : (1 : Int) = 1 ∨ (1 : Int) = 2 := by decide
    have HI := Lib.hid hi
    have HFINE := Lib.hid hi.fine
    have HR := Lib.hid hi.row
    have HSP := Lib.hid hi.split
    have hn := hi.n
    have hrf := adjR_in hax (by omega) ht hb
    have htr := hi.split.2.1
    have htk := hi.split.1
    have hti := hi.split.2.2.1
    have HE := Lib.hid (adjT_eq 1 b t)
    obtain ⟨ck, cr, cid, ca, cn, ccap⟩ := c
    simp only at hn htr htk hti
    subst hn
    rw [htr] at hrf
    rw [htk, htr, hti] at HE
    obtain ⟨hrf, hw1, hw2, hh1, hh2⟩ := hrf
    have hwrap : IntKind.i64.wrap (cr.w + b) = cr.w + b := wrap_id (by omega)
    have hbf : fits b := by unfold canB at hb; have := (gv_bounds hax (show sz t ≤ 20000 by omega) ht).2; unfold fits; omega
    have HBF := Lib.hid hbf
    have HRF : Hid ((⟨cr.x, cr.y, cr.w + b, cr.h⟩ : R).fits) := Lib.hid hrf
    have HE2 : Hid (adjT 1 b t = .node ck ⟨cr.x, cr.y, cr.w + b, cr.h⟩ cid (adjL 1 (shF ck 1 b (t.kids.map (gvT 1))) t.kids)) := Lib.hid HE.out
    have HT := Lib.hid ht
    have HB := Lib.hid hb
    have HS := Lib.hid hs
    have HM := Lib.hid hm
    have HIH := Lib.hid ih
    have hfn : t.kids.length ≤ 990 := by have := sz_node t; have := szL_len t.kids; omega
    have HKL := Lib.hid (show t.kids.length ≤ 990 by have := sz_node t; have := szL_len t.kids; omega)
    have HOKS : Hid (alB ck 1 = true → okS b (t.kids.map (gvT 1))) := Lib.hid fun h => can_ok hax (by omega) ht hb (by rw [htk]; exact h)
    have HCAN : Hid (∀ (j : Nat) (u : T), t.kids[j]? = some u → (alB ck 1 = true → ∃ l, ShIs b (t.kids.map (gvT 1)) l) → canB 1 (shF ck 1 b (t.kids.map (gvT 1)) j) u) := Lib.hid fun j u hj hsh => by
      have := can_kid hax (by omega) ht hb hj (by rw [htk]; exact hsh)
      rw [htk] at this; exact this
    have HTK : Hid (∀ (j : Nat) (u : T), t.kids[j]? = some u → tileB u = true ∧ 0 ≤ gvT 1 u ∧ gvT 1 u ≤ 10000 ∧ 1 ≤ lsT 1 u ∧ szA u.r 1 ≤ 10000 ∧ lsT 1 u ≤ szA u.r 1) := Lib.hid fun j u hj => by
      have h1 := sz_kid hj
      have h2 := tile_kid (by omega) ht hj
      have h3 := gv_bounds hax (show sz u ≤ 20000 by omega) h2
      have h4 := szA_pos (well_rect (tile_top (by omega) h2).1) hax
      refine ⟨h2, h3.1, h3.2, ls_pos 1 u, by omega, ?_⟩
      unfold gvT at h3; omega
    clear hi hs hm ht hb ih hrf htr htk hti HE hbf hax
    have BX : Hid (Box7 (cellW w ⟨ck, ⟨cr.x, cr.y, cr.w + b, cr.h⟩, cid, ca, t.kids.length, ccap⟩) w.heap.size ⟨ck, ⟨cr.x, cr.y, cr.w + b, cr.h⟩, cid, ca, t.kids.length, ccap⟩) := Lib.hid (cellW_box w _)
    have ZX : Hid (Zero7 (cellW w ⟨ck, ⟨cr.x, cr.y, cr.w + b, cr.h⟩, cid, ca, t.kids.length, ccap⟩) (w.heap.size + 1)) := Lib.hid (cellW_zero w _)
    have BW : Hid (Below w.heap.size w (cellW w ⟨ck, ⟨cr.x, cr.y, cr.w + b, cr.h⟩, cid, ca, t.kids.length, ccap⟩)) := Lib.hid (cellW_below w _)
    have SW : Hid ((cellW w ⟨ck, ⟨cr.x, cr.y, cr.w + b, cr.h⟩, cid, ca, t.kids.length, ccap⟩).heap.size = w.heap.size + 2) := Lib.hid (cellW_size w _)
    go_enter Tryz.func59, Tryz.ntmps59
    go_wp2
    go_loopg [7, 33] (t.kids.length + 1) (fun g v i wr => ∃ (k : Nat), g + k = t.kids.length + 1 ∧ k ≤ t.kids.length ∧ i = .int .i64 k ∧ OwnI wr (cellW w ⟨ck, ⟨cr.x, cr.y, cr.w + b, cr.h⟩, cid, ca, t.kids.length, ccap⟩).heap.size v ((t.kids.take k).map (gvT 1)) ∧ Below (cellW w ⟨ck, ⟨cr.x, cr.y, cr.w + b, cr.h⟩, cid, ca, t.kids.length, ccap⟩).heap.size (cellW w ⟨ck, ⟨cr.x, cr.y, cr.w + b, cr.h⟩, cid, ca, t.kids.length, ccap⟩) wr)
    case atStart => exact ⟨0, by omega, by omega, rfl, by simpa using OwnI.empty (cellW w ⟨ck, ⟨cr.x, cr.y, cr.w + b, cr.h⟩, cid, ca, t.kids.length, ccap⟩) _ (Nat.le_refl _), (Below.refl _ _).alloc (Nat.le_refl _) _⟩
    case round =>
      obtain ⟨k, hg, hk, rfl, hown, hb⟩ := hrel
      have HG := Lib.hid hg
      have HO := Lib.hid hown
      have HB1 := Lib.hid hb
      clear hg hown hb
      have HBW := Lib.hid (BW.out.trans (HB1.out.mono BW.out.size))
      by_cases hlt : k < t.kids.length
      · have hlti : (k : Int) < (t.kids.length : Int) := by omega
        obtain ⟨bb, o, rfl, hf⟩ := HR.out.place (by omega)
        obtain ⟨u, hu⟩ : ∃ u, t.kids[k]? = some u := ⟨_, List.getElem?_eq_getElem hlt⟩
        obtain ⟨z, hz, hiz⟩ := hf k u hu
        clear hf
        have HZ := Lib.hid hz
        have HIZ := Lib.hid hiz
        have HSM := Lib.hid (HTK.out k u hu)
        have HZR := Lib.hid hiz.split.2.1
        have HTAKE := Lib.hid (show (t.kids.take (k + 1)).map (gvT 1) = (t.kids.take k).map (gvT 1) ++ [szA z.r 1 - lsT 1 u] by rw [take_snoc hu, List.map_append]; show _ = _ ++ [szA z.r 1 - lsT 1 u]; rw [← hiz.split.2.1]; rfl)
        have HOF := Lib.hid (fun W (h : Below w.heap.size w W) => rof_any 1 (sz u) u z W (Nat.le_refl _) (by have := HM.out; have := sz_kid hu; omega) (hiz.up h))
        have hwr : IntKind.i64.wrap (szA z.r 1 - lsT 1 u) = szA z.r 1 - lsT 1 u := wrap_id (by have := HSM.out; rw [← HZR.out]; omega)
        have HDR : Hid (Below w.heap.size w wr.drew) := Lib.hid HBW.out.drew
        have X0 : Hid (wr.drew.cell? ⟨w.heap.size, 6, none⟩ = some (.slice (some ⟨bb, o, none⟩) t.kids.length ccap) ∧ CellsT wr.drew bb (o + k * 7) z) := Lib.hid ⟨(c7_of ((BX.out.up HB1.out).up (Below.refl wr.heap.size wr).drew).cat).2.2.2.2.2.2, hz.up HDR.out⟩
        clear hiz hz hu
        go_wp2_with fail
        go_region_held3 (fun W => W.cell? ⟨w.heap.size, 6, none⟩ = some (.slice (some ⟨bb, o, none⟩) t.kids.length ccap) ∧ W.cell? ⟨bb, o + k * 7, none⟩ = some (.int .u8 z.k) ∧ W.cell? ⟨bb, o + k * 7 + 1, none⟩ = some (.int .i64 z.r.x) ∧ W.cell? ⟨bb, o + k * 7 + 2, none⟩ = some (.int .i64 z.r.y) ∧ W.cell? ⟨bb, o + k * 7 + 3, none⟩ = some (.int .i64 z.r.w) ∧ W.cell? ⟨bb, o + k * 7 + 4, none⟩ = some (.int .i64 z.r.h) ∧ W.cell? ⟨bb, o + k * 7 + 5, none⟩ = some (.int .i64 z.id) ∧ W.cell? ⟨bb, o + k * 7 + 6, none⟩ = some (.slice z.a z.n z.cap)) (first | exact X0.out | exact X1.out | exact X2.out | exact X3.out | exact X4.out)
          (first
            | (go_at_call 38; (with_reducible refine (rsize_any z.r 1 _).mono ?_); rintro e w4 ⟨rfl, hb4⟩; have B4 := Lib.hid hb4; have X1 := Lib.hid (adjx_up X0.out hb4); have B4w := Lib.hid (HDR.out.trans (hb4.mono HDR.out.size)); clear hb4)
            | (go_at_call 58; (with_reducible refine (HOF.out w4 B4w.out).mono ?_); rintro e w5 ⟨rfl, hb5⟩; have B5 := Lib.hid (B4.out.trans (hb5.mono B4.out.size)); have X2 := Lib.hid (adjx_up X1.out hb5); clear hb5; have X3 := Lib.hid (adjx_up X2.out ((Below.refl w5.heap.size w5).alloc (Nat.le_refl _) (.cells #[.int .i64 (szA z.r 1 - lsT 1 u)] 3))))
            | (refine step_append_int rfl _ _ rfl (cellW w ⟨ck, ⟨cr.x, cr.y, cr.w + b, cr.h⟩, cid, some ⟨bb, o, none⟩, t.kids.length, ccap⟩).heap.size u7 ((t.kids.take k).map (gvT 1)) _ (szA z.r 1 - lsT 1 u) rfl ((HO.out.up ((Below.refl wr.heap.size wr).drew.trans B5.out)).up ((Below.refl _ _).alloc (Nat.le_refl _) _)) rfl (by simp) (by have := HKL.out; simp; omega) (cellW w ⟨ck, ⟨cr.x, cr.y, cr.w + b, cr.h⟩, cid, some ⟨bb, o, none⟩, t.kids.length, ccap⟩) ((HB1.out.trans (((Below.refl wr.heap.size wr).drew.trans B5.out).mono HB1.out.size)).alloc (by have := HB1.out.size; have := B5.out.size; exact Nat.le_trans HB1.out.size B5.out.size) _) (Nat.le_refl _) ?_
               intro g6 cap6 w6 hown6 hb6 hgr6 hpl6
               have O6 := Lib.hid hown6
               have B6 := Lib.hid hb6
               have X4 := Lib.hid (adjx_w (BW.out.trans (hb6.mono BW.out.size)) BX.out hb6 HZ.out)
               clear hown6 hb6 hgr6 hpl6))
        go_wp2
        go_roundg (gk - 1)
        case measure => have := HG.out; omega
        case rel =>
          refine ⟨k + 1, by have := HG.out; omega, by omega, by go_num, ?_, B6.out⟩
          rw [HTAKE.out]
          have hmin : min k t.kids.length = k := by omega
          have h6 := O6.out
          simp only [List.length_map, List.length_take, hmin] at h6
          simpa using h6
      · obtain rfl : k = t.kids.length := by omega
        have hkl : ((t.kids.length : Int) < (t.kids.length : Int)) = False := by simp
        have HO1 : Hid (OwnI wr (cellW w ⟨ck, ⟨cr.x, cr.y, cr.w + b, cr.h⟩, cid, ca, t.kids.length, ccap⟩).heap.size u7 (t.kids.map (gvT 1))) := Lib.hid (by have := HO.out; rw [List.take_length] at this; exact this)
        clear HO
        have HSF : Hid (∀ (j : Nat) (u : T), t.kids[j]? = some u → (alB ck 1 = true → ∃ l, ShIs b (t.kids.map (gvT 1)) l) → ∀ W, Below w.heap.size w W → ∀ z, Is w z u → Calls Tryz.prog 59 #[cval z, .int .u8 1, .int .i64 (shF ck 1 b (t.kids.map (gvT 1)) j)] W (GrSays (fun _ => True) (adjT 1 (shF ck 1 b (t.kids.map (gvT 1)) j) u) W)) := Lib.hid fun j u hj hsh W hW z hz => HIH.out u z _ W (by have := HS.out; have := sz_kid hj; omega) (by have := HM.out; have := sz_kid hj; omega) (HTK.out j u hj).1 (HCAN.out j u hj hsh) (hz.up hW)
        have HAL := Lib.hid (fun W => ralong_any ⟨ck, ⟨cr.x, cr.y, cr.w + b, cr.h⟩, cid, ca, t.kids.length, ccap⟩ 1 W)
        obtain ⟨s0, s1, s2, s3, s4, s5, s6⟩ := c7_of (BX.out.up HB1.out).cat
        have HE0 : Hid (OwnI (wr.alloc (.cells #[] 3)) (cellW w ⟨ck, ⟨cr.x, cr.y, cr.w + b, cr.h⟩, cid, ca, t.kids.length, ccap⟩).heap.size (.slice (some ⟨wr.heap.size, 0, none⟩) 0 0) []) := Lib.hid (OwnI.empty wr _ HB1.out.size)
        have hba : Below wr.heap.size wr (wr.alloc (.cells #[] 3)) := (Below.refl _ _).alloc (Nat.le_refl _) _
        have HB2 := Lib.hid (HB1.out.trans (hba.mono HB1.out.size))
        have HO2 := Lib.hid (HO1.out.up hba)
        obtain ⟨s0, s1, s2, s3, s4, s5, s6⟩ := c7_of (BX.out.up HB2.out).cat
        clear hba HO1
        go_wp2_with fail
        refine (HAL.out _).mono ?_
        rintro e w2 ⟨rfl, hb2⟩
        have HB3 := Lib.hid (HB2.out.trans (hb2.mono HB2.out.size))
        have HE3 := Lib.hid (HE0.out.up hb2)
        have HO3 := Lib.hid (HO2.out.up hb2)
        clear hb2 HE0 HO2 HB2 s0 s1 s2 s3 s4 s5 s6
        cases hal : alB ck 1 with
        | true =>
          have hok := HOKS.out hal
          have HSH := Lib.hid (rshares_any b u7 (t.kids.map (gvT 1)) w2 HO3.out.row HBF.out (by rw [List.length_map]; have := HKL.out; omega))
          go_wp2_with fail
          refine HSH.out.mono ?_
          rintro e w3 ⟨hb3, hcase⟩
          rcases hcase with ⟨-, v3, l3, rfl, hl3, hrow3⟩ | ⟨hno, -⟩
          · have HL3 := Lib.hid hl3
            have HEX : Hid (alB ck 1 = true → ∃ l, ShIs b (t.kids.map (gvT 1)) l) := Lib.hid fun _ => ⟨l3, hl3⟩
            have hlen3 : l3.length = t.kids.length := by rw [hl3.len, List.length_map]
            have HSV : Hid (∀ j, j < t.kids.length → l3[j]? = some (shF ck 1 b (t.kids.map (gvT 1)) j)) := Lib.hid fun j hj => by
              have hj' : j < l3.length := by omega
              unfold shF
              rw [if_pos hal, shL_of hl3, List.getD_eq_getElem?_getD, List.getElem?_eq_getElem hj']
              rfl
            have HB4 := Lib.hid (HB3.out.trans (hb3.mono HB3.out.size))
            have HR3 := Lib.hid hrow3
            obtain ⟨a3, cap3, rfl⟩ := row_shape hrow3
            clear hb3 hl3 hrow3 HSH HE3 HO3 HB3
            have hlen4 := Lib.hid hlen3
            rw [hlen3]
            clear hlen3
            have hpos : 0 < t.kids.length := by
              have := hok.1
              rcases Nat.eq_zero_or_pos t.kids.length with h | h
              · rw [List.length_eq_zero_iff.1 h] at this; exact absurd rfl this
              · exact h
            obtain ⟨aa3, cap3', he3, h03, hc3⟩ := HR3.out
            rw [ints_length] at he3
            have haa : a3 = aa3 := by cases he3; rfl
            subst haa
            obtain ⟨b3, o3, rfl, hcell3⟩ := row_at h03 hc3 (by rw [ints_length, hlen4.out]; exact hpos)
            have HRC := Lib.hid hcell3
            clear h03 hc3 hcell3 he3 hok
            have HBK := Lib.hid (BW.out.trans (HB4.out.mono BW.out.size))
            generalize hF : shF ck 1 b (t.kids.map (gvT 1)) = F at HSF HSV 
            have HEF : Hid (adjT 1 b t = .node ck ⟨cr.x, cr.y, cr.w + b, cr.h⟩ cid (adjL 1 F t.kids)) := Lib.hid (by rw [HE2.out, hF])
            clear hF
            have hba : Below w3.heap.size w3 (w3.alloc (.cells #[] 26)) := (Below.refl _ _).alloc (Nat.le_refl _) _
            obtain ⟨s0, s1, s2, s3, s4, s5, s6⟩ := c7_of ((BX.out.up HB4.out).up hba).cat
            have HG0 : Hid (Grove (fun _ => True) (w3.alloc (.cells #[] 26)) w3.heap.size (.slice (some ⟨w3.heap.size, 0, none⟩) 0 0) [] (adjL 1 F (t.kids.take 0))) := Lib.hid (by simpa [adjL] using Grove.empty (fun _ => True) w3 _ (Nat.le_refl _))
            have HBA := Lib.hid hba
            clear hba
            go_wp2
            go_loopg [10, 70] (t.kids.length + 1) (fun g v i wq => ∃ (k : Nat) (cs : List C), g + k = t.kids.length + 1 ∧ k ≤ t.kids.length ∧ i = .int .i64 k ∧ Grove (fun _ => True) wq w3.heap.size v cs (adjL 1 F (t.kids.take k)) ∧ Below w3.heap.size w3 wq)
            case atStart => exact ⟨0, [], by omega, by omega, rfl, HG0.out, HBA.out⟩
            case round =>
              clear s0 s1 s2 s3 s4 s5 s6
              obtain ⟨k, cs, hg, hk, rfl, hgr, hbq⟩ := hrel
              have HG := Lib.hid hg
              have HF := Lib.hid hgr
              have HBq := Lib.hid hbq
              clear hg hgr hbq
              have HBQ := Lib.hid (HBK.out.trans (HBq.out.mono HBK.out.size))
              by_cases hlt : k < t.kids.length
              · have hlti : (k : Int) < (t.kids.length : Int) := by omega
                obtain ⟨bb, o, rfl, hf⟩ := HR.out.place (by omega)
                obtain ⟨u, hu⟩ : ∃ u, t.kids[k]? = some u := ⟨_, List.getElem?_eq_getElem hlt⟩
                obtain ⟨z, hz, hiz⟩ := hf k u hu
                clear hf
                have HK := Lib.hid (HSF.out k u hu HEX.out wr HBQ.out z hiz)
                have HST := Lib.hid (adjL_step (ax := 1) (s := F) hu)
                have HLC := Lib.hid (show cs.length ≤ 990 by have := HF.out.len; rw [adjL_len, List.length_take] at this; have := HKL.out; omega)
                obtain ⟨c0, c1, c2, c3, c4, c5, c6⟩ := hz.up HBQ.out
                obtain ⟨s0, s1, s2, s3, s4, s5, s6⟩ := c7_of ((BX.out.up HB4.out).up HBq.out).cat
                have hsv := HSV.out k hlt
                have r0 : wr.cell? ⟨b3, o3 + k, none⟩ = some (.int .i64 (F k)) := by
                  have h1 := HRC.out k (.int .i64 (F k)) (by unfold ints; rw [List.getElem?_map, hsv]; rfl)
                  exact (HBq.out.cell (lt_of_cell h1)).trans h1
                clear hsv
                clear hiz hz hu
                go_wp2_with fail
                refine HK.out.mono ?_
                rintro e w5 ⟨d, rfl, hst, hb5⟩
                have HD := Lib.hid hst
                have HB12 := Lib.hid hb5
                have HB5 := Lib.hid (HBq.out.trans (HB12.out.mono HBq.out.size))
                clear hst hb5 c0 c1 c2 c3 c4 c5 c6 s0 s1 s2 s3 s4 s5 s6
                go_wp2_with (at_builtin; refine wpList_append_cells rfl _ _ rfl w3.heap.size u10 _ cs [d] rfl (HF.out.row.up (HB12.out.trans (((Below.refl w5.heap.size w5).alloc (Nat.le_refl _) (cbox d)).mono HB12.out.size))) rfl (OwnC.one w5 0 (Nat.zero_le _) d).row (by simp) (by have := HLC.out; simp only [List.length_cons, List.length_nil]; omega) w3 (HB5.out.alloc HB5.out.size _) (Nat.le_refl _) ?_; intro g cap6 w6 hown6 hb6 hgr6 hpl6)
                have HF6 := Lib.hid (HF.out.one HB12.out ((Below.refl _ _).alloc (Nat.le_refl _) (cbox d)) HBq.out.size HD.out hown6 hgr6 hpl6)
                have HB6 := Lib.hid hb6
                clear hown6 hb6 hgr6 hpl6
                go_wp2
                go_roundg (gk - 1)
                case measure => have := HG.out; omega
                case rel =>
                  refine ⟨k + 1, cs ++ [d], by have := HG.out; omega, by omega, by go_num, ?_, HB6.out⟩
                  rw [HST.out]
                  simpa using HF6.out
              · obtain rfl : k = t.kids.length := by omega
                have hkl : ((t.kids.length : Int) < (t.kids.length : Int)) = False := by simp
                have HFA : Hid (Grove (fun _ => True) wr (w.heap.size + 2) u10 cs (adjL 1 F t.kids)) := Lib.hid (by
                  have h1 := HF.out
                  rw [List.take_length] at h1
                  exact h1.lower (by have := HB4.out.size; have := SW.out; omega))
                obtain ⟨a', cap', rfl⟩ := HF.out.row.row.shape
                have HBX := Lib.hid ((BX.out.up HB4.out).up HBq.out)
                have HZX := Lib.hid (zero_up (zero_up ZX.out HB4.out) HBq.out)
                obtain ⟨c0, c1, c2, c3, c4, c5, c6⟩ := c7_of HBX.out.cat
                have g6 := HBX.out.free 6
                obtain ⟨⟨z0, z1, z2, z3, z4, z5, z6⟩, f0, f1, f2, f3, f4, f5, f6⟩ := zero_parts HZX.out
                go_wp2
                (try simp only [Exit.inBlock, Exit.then])
                have hset : (wr.setCell ⟨w.heap.size, 6, none⟩ (.slice a' cs.length cap')).heap[w.heap.size + 1]? = wr.heap[w.heap.size + 1]? := Below.heap_setCell wr ⟨w.heap.size, 6, none⟩ _ _ (by simp)
                have hz2 : Box7 (wr.setCell ⟨w.heap.size, 6, none⟩ (.slice a' cs.length cap')) (w.heap.size + 1) ⟨0, ⟨0, 0, 0, 0⟩, 0, none, 0, 0⟩ := hset.trans HZX.out
                refine bodyPost_ret (results_cell1 rfl _ _ (w.heap.size + 1) ⟨ck, ⟨cr.x, cr.y, cr.w + b, cr.h⟩, cid, a', cs.length, cap'⟩ rfl (hz2.put ⟨ck, ⟨cr.x, cr.y, cr.w + b, cr.h⟩, cid, a', cs.length, cap'⟩)) rfl ?_
                exact gr_end HEF.out HBQ.out HFA.out HFINE.out.1 HRF.out HFINE.out.2.2.1 (by rw [adjL_len]; have := HKL.out; omega)
          · exact absurd hok hno
        | false =>
          have HEX : Hid (alB ck 1 = true → ∃ l, ShIs b (t.kids.map (gvT 1)) l) := Lib.hid fun h => by rw [hal] at h; cases h
          have HSB : Hid (∀ j, shF ck 1 b (t.kids.map (gvT 1)) j = b) := Lib.hid fun j => by unfold shF; rw [if_neg (by rw [hal]; decide)]
          have HBK := Lib.hid (BW.out.trans (HB3.out.mono BW.out.size))
          generalize hF : shF ck 1 b (t.kids.map (gvT 1)) = F at HSF HSB
          have HEF : Hid (adjT 1 b t = .node ck ⟨cr.x, cr.y, cr.w + b, cr.h⟩ cid (adjL 1 F t.kids)) := Lib.hid (by rw [HE2.out, hF])
          clear hF
          have hba : Below w2.heap.size w2 (w2.alloc (.cells #[] 26)) := (Below.refl _ _).alloc (Nat.le_refl _) _
          obtain ⟨s0, s1, s2, s3, s4, s5, s6⟩ := c7_of ((BX.out.up HB3.out).up hba).cat
          have HG0 : Hid (Grove (fun _ => True) (w2.alloc (.cells #[] 26)) w2.heap.size (.slice (some ⟨w2.heap.size, 0, none⟩) 0 0) [] (adjL 1 F (t.kids.take 0))) := Lib.hid (by simpa [adjL] using Grove.empty (fun _ => True) w2 _ (Nat.le_refl _))
          have HBA := Lib.hid hba
          clear hba
          go_wp2
          go_loopg [10, 70] (t.kids.length + 1) (fun g v i wq => ∃ (k : Nat) (cs : List C), g + k = t.kids.length + 1 ∧ k ≤ t.kids.length ∧ i = .int .i64 k ∧ Grove (fun _ => True) wq w2.heap.size v cs (adjL 1 F (t.kids.take k)) ∧ Below w2.heap.size w2 wq)
          case atStart => exact ⟨0, [], by omega, by omega, rfl, HG0.out, HBA.out⟩
          case round =>
            clear s0 s1 s2 s3 s4 s5 s6
            obtain ⟨k, cs, hg, hk, rfl, hgr, hbq⟩ := hrel
            have HG := Lib.hid hg
            have HF := Lib.hid hgr
            have HBq := Lib.hid hbq
            clear hg hgr hbq
            have HBQ := Lib.hid (HBK.out.trans (HBq.out.mono HBK.out.size))
            by_cases hlt : k < t.kids.length
            · have hlti : (k : Int) < (t.kids.length : Int) := by omega
              obtain ⟨bb, o, rfl, hf⟩ := HR.out.place (by omega)
              obtain ⟨u, hu⟩ : ∃ u, t.kids[k]? = some u := ⟨_, List.getElem?_eq_getElem hlt⟩
              obtain ⟨z, hz, hiz⟩ := hf k u hu
              clear hf
              have HK := Lib.hid (HSF.out k u hu HEX.out wr HBQ.out z hiz)
              have HST := Lib.hid (adjL_step (ax := 1) (s := F) hu)
              have HLC := Lib.hid (show cs.length ≤ 990 by have := HF.out.len; rw [adjL_len, List.length_take] at this; have := HKL.out; omega)
              obtain ⟨c0, c1, c2, c3, c4, c5, c6⟩ := hz.up HBQ.out
              obtain ⟨s0, s1, s2, s3, s4, s5, s6⟩ := c7_of ((BX.out.up HB3.out).up HBq.out).cat
              rw [HSB.out k] at HK
              have HFK := Lib.hid (HSB.out k)
              clear hiz hz hu
              go_wp2_with fail
              refine HK.out.mono ?_
              rintro e w5 ⟨d, rfl, hst, hb5⟩
              have HD := Lib.hid hst
              have HB12 := Lib.hid hb5
              have HB5 := Lib.hid (HBq.out.trans (HB12.out.mono HBq.out.size))
              clear hst hb5 c0 c1 c2 c3 c4 c5 c6 s0 s1 s2 s3 s4 s5 s6
              go_wp2_with (at_builtin; refine wpList_append_cells rfl _ _ rfl w2.heap.size u10 _ cs [d] rfl (HF.out.row.up (HB12.out.trans (((Below.refl w5.heap.size w5).alloc (Nat.le_refl _) (cbox d)).mono HB12.out.size))) rfl (OwnC.one w5 0 (Nat.zero_le _) d).row (by simp) (by have := HLC.out; simp only [List.length_cons, List.length_nil]; omega) w2 (HB5.out.alloc HB5.out.size _) (Nat.le_refl _) ?_; intro g cap6 w6 hown6 hb6 hgr6 hpl6)
              have HF6 := Lib.hid (HF.out.one HB12.out ((Below.refl _ _).alloc (Nat.le_refl _) (cbox d)) HBq.out.size HD.out hown6 hgr6 hpl6)
              have HB6 := Lib.hid hb6
              clear hown6 hb6 hgr6 hpl6
              go_wp2
              go_roundg (gk - 1)
              case measure => have := HG.out; omega
              case rel =>
                refine ⟨k + 1, cs ++ [d], by have := HG.out; omega, by omega, by go_num, ?_, HB6.out⟩
                rw [HST.out]
                rw [HFK.out]
                simpa using HF6.out
            · obtain rfl : k = t.kids.length := by omega
              have hkl : ((t.kids.length : Int) < (t.kids.length : Int)) = False := by simp
              have HFA : Hid (Grove (fun _ => True) wr (w.heap.size + 2) u10 cs (adjL 1 F t.kids)) := Lib.hid (by
                have h1 := HF.out
                rw [List.take_length] at h1
                exact h1.lower (by have := HB3.out.size; have := SW.out; omega))
              obtain ⟨a', cap', rfl⟩ := HF.out.row.row.shape
              have HBX := Lib.hid ((BX.out.up HB3.out).up HBq.out)
              have HZX := Lib.hid (zero_up (zero_up ZX.out HB3.out) HBq.out)
              obtain ⟨c0, c1, c2, c3, c4, c5, c6⟩ := c7_of HBX.out.cat
              have g6 := HBX.out.free 6
              obtain ⟨⟨z0, z1, z2, z3, z4, z5, z6⟩, f0, f1, f2, f3, f4, f5, f6⟩ := zero_parts HZX.out
              go_wp2
              (try simp only [Exit.inBlock, Exit.then])
              have hset : (wr.setCell ⟨w.heap.size, 6, none⟩ (.slice a' cs.length cap')).heap[w.heap.size + 1]? = wr.heap[w.heap.size + 1]? := Below.heap_setCell wr ⟨w.heap.size, 6, none⟩ _ _ (by simp)
              have hz2 : Box7 (wr.setCell ⟨w.heap.size, 6, none⟩ (.slice a' cs.length cap')) (w.heap.size + 1) ⟨0, ⟨0, 0, 0, 0⟩, 0, none, 0, 0⟩ := hset.trans HZX.out
              refine bodyPost_ret (results_cell1 rfl _ _ (w.heap.size + 1) ⟨ck, ⟨cr.x, cr.y, cr.w + b, cr.h⟩, cid, a', cs.length, cap'⟩ rfl (hz2.put ⟨ck, ⟨cr.x, cr.y, cr.w + b, cr.h⟩, cid, a', cs.length, cap'⟩)) rfl ?_
              exact gr_end HEF.out HBQ.out HFA.out HFINE.out.1 HRF.out HFINE.out.2.2.1 (by rw [adjL_len]; have := HKL.out; omega)

end Go.Proofs.YtcdiogifgemjbaaGreat
/- A cell that can be adjusted, along the other axis: the document's answer. -/
namespace Go.Proofs.YtcdiogifgemjbaaGreat
open Go.RowKit

set_option maxHeartbeats 4000000 in
set_option maxRecDepth 100000 in
theorem radj2_any (N : Nat) : ∀ (t : T) (c : C) (b : Int) (w : World), sz t ≤ N → sz t ≤ 990 → tileB t = true → canB 2 b t → Is w c t → Calls Tryz.prog 59 #[cval c, .int .u8 2, .int .i64 b] w (GrSays (fun _ => True) (adjT 2 b t) w) := by
  induction N with
  | zero => intro t c b w h; have := sz_pos t; omega
  | succ N ih =>
    intro t c b w hs hm ht hb hi
    have hax : (2 : Int) = 1 ∨ (2 : Int) = 2 := by decide
    have HI := Lib.hid hi
    have HFINE := Lib.hid hi.fine
    have HR := Lib.hid hi.row
    have HSP := Lib.hid hi.split
    have hn := hi.n
    have hrf := adjR_in hax (by omega) ht hb
    have htr := hi.split.2.1
    have htk := hi.split.1
    have hti := hi.split.2.2.1
    have HE := Lib.hid (adjT_eq 2 b t)
    obtain ⟨ck, cr, cid, ca, cn, ccap⟩ := c
    simp only at hn htr htk hti
    subst hn
    rw [htr] at hrf
    rw [htk, htr, hti] at HE
    obtain ⟨hrf, hw1, hw2, hh1, hh2⟩ := hrf
    have hwrap : IntKind.i64.wrap (cr.h + b) = cr.h + b := wrap_id (by omega)
    have hbf : fits b := by unfold canB at hb; have := (gv_bounds hax (show sz t ≤ 20000 by omega) ht).2; unfold fits; omega
    have HBF := Lib.hid hbf
    have HRF : Hid ((⟨cr.x, cr.y, cr.w, cr.h + b⟩ : R).fits) := Lib.hid hrf
    have HE2 : Hid (adjT 2 b t = .node ck ⟨cr.x, cr.y, cr.w, cr.h + b⟩ cid (adjL 2 (shF ck 2 b (t.kids.map (gvT 2))) t.kids)) := Lib.hid HE.out
    have HT := Lib.hid ht
    have HB := Lib.hid hb
    have HS := Lib.hid hs
    have HM := Lib.hid hm
    have HIH := Lib.hid ih
    have hfn : t.kids.length ≤ 990 := by have := sz_node t; have := szL_len t.kids; omega
    have HKL := Lib.hid (show t.kids.length ≤ 990 by have := sz_node t; have := szL_len t.kids; omega)
    have HOKS : Hid (alB ck 2 = true → okS b (t.kids.map (gvT 2))) := Lib.hid fun h => can_ok hax (by omega) ht hb (by rw [htk]; exact h)
    have HCAN : Hid (∀ (j : Nat) (u : T), t.kids[j]? = some u → (alB ck 2 = true → ∃ l, ShIs b (t.kids.map (gvT 2)) l) → canB 2 (shF ck 2 b (t.kids.map (gvT 2)) j) u) := Lib.hid fun j u hj hsh => by
      have := can_kid hax (by omega) ht hb hj (by rw [htk]; exact hsh)
      rw [htk] at this; exact this
    have HTK : Hid (∀ (j : Nat) (u : T), t.kids[j]? = some u → tileB u = true ∧ 0 ≤ gvT 2 u ∧ gvT 2 u ≤ 10000 ∧ 1 ≤ lsT 2 u ∧ szA u.r 2 ≤ 10000 ∧ lsT 2 u ≤ szA u.r 2) := Lib.hid fun j u hj => by
      have h1 := sz_kid hj
      have h2 := tile_kid (by omega) ht hj
      have h3 := gv_bounds hax (show sz u ≤ 20000 by omega) h2
      have h4 := szA_pos (well_rect (tile_top (by omega) h2).1) hax
      refine ⟨h2, h3.1, h3.2, ls_pos 2 u, by omega, ?_⟩
      unfold gvT at h3; omega
    clear hi hs hm ht hb ih hrf htr htk hti HE hbf hax
    have BX : Hid (Box7 (cellW w ⟨ck, ⟨cr.x, cr.y, cr.w, cr.h + b⟩, cid, ca, t.kids.length, ccap⟩) w.heap.size ⟨ck, ⟨cr.x, cr.y, cr.w, cr.h + b⟩, cid, ca, t.kids.length, ccap⟩) := Lib.hid (cellW_box w _)
    have ZX : Hid (Zero7 (cellW w ⟨ck, ⟨cr.x, cr.y, cr.w, cr.h + b⟩, cid, ca, t.kids.length, ccap⟩) (w.heap.size + 1)) := Lib.hid (cellW_zero w _)
    have BW : Hid (Below w.heap.size w (cellW w ⟨ck, ⟨cr.x, cr.y, cr.w, cr.h + b⟩, cid, ca, t.kids.length, ccap⟩)) := Lib.hid (cellW_below w _)
    have SW : Hid ((cellW w ⟨ck, ⟨cr.x, cr.y, cr.w, cr.h + b⟩, cid, ca, t.kids.length, ccap⟩).heap.size = w.heap.size + 2) := Lib.hid (cellW_size w _)
    go_enter Tryz.func59, Tryz.ntmps59
    go_wp2
    go_loopg [7, 33] (t.kids.length + 1) (fun g v i wr => ∃ (k : Nat), g + k = t.kids.length + 1 ∧ k ≤ t.kids.length ∧ i = .int .i64 k ∧ OwnI wr (cellW w ⟨ck, ⟨cr.x, cr.y, cr.w, cr.h + b⟩, cid, ca, t.kids.length, ccap⟩).heap.size v ((t.kids.take k).map (gvT 2)) ∧ Below (cellW w ⟨ck, ⟨cr.x, cr.y, cr.w, cr.h + b⟩, cid, ca, t.kids.length, ccap⟩).heap.size (cellW w ⟨ck, ⟨cr.x, cr.y, cr.w, cr.h + b⟩, cid, ca, t.kids.length, ccap⟩) wr)
    case atStart => exact ⟨0, by omega, by omega, rfl, by simpa using OwnI.empty (cellW w ⟨ck, ⟨cr.x, cr.y, cr.w, cr.h + b⟩, cid, ca, t.kids.length, ccap⟩) _ (Nat.le_refl _), (Below.refl _ _).alloc (Nat.le_refl _) _⟩
    case round =>
      obtain ⟨k, hg, hk, rfl, hown, hb⟩ := hrel
      have HG := Lib.hid hg
      have HO := Lib.hid hown
      have HB1 := Lib.hid hb
      clear hg hown hb
      have HBW := Lib.hid (BW.out.trans (HB1.out.mono BW.out.size))
      by_cases hlt : k < t.kids.length
      · have hlti : (k : Int) < (t.kids.length : Int) := by omega
        obtain ⟨bb, o, rfl, hf⟩ := HR.out.place (by omega)
        obtain ⟨u, hu⟩ : ∃ u, t.kids[k]? = some u := ⟨_, List.getElem?_eq_getElem hlt⟩
        obtain ⟨z, hz, hiz⟩ := hf k u hu
        clear hf
        have HZ := Lib.hid hz
        have HIZ := Lib.hid hiz
        have HSM := Lib.hid (HTK.out k u hu)
        have HZR := Lib.hid hiz.split.2.1
        have HTAKE := Lib.hid (show (t.kids.take (k + 1)).map (gvT 2) = (t.kids.take k).map (gvT 2) ++ [szA z.r 2 - lsT 2 u] by rw [take_snoc hu, List.map_append]; show _ = _ ++ [szA z.r 2 - lsT 2 u]; rw [← hiz.split.2.1]; rfl)
        have HOF := Lib.hid (fun W (h : Below w.heap.size w W) => rof_any 2 (sz u) u z W (Nat.le_refl _) (by have := HM.out; have := sz_kid hu; omega) (hiz.up h))
        have hwr : IntKind.i64.wrap (szA z.r 2 - lsT 2 u) = szA z.r 2 - lsT 2 u := wrap_id (by have := HSM.out; rw [← HZR.out]; omega)
        have HDR : Hid (Below w.heap.size w wr.drew) := Lib.hid HBW.out.drew
        have X0 : Hid (wr.drew.cell? ⟨w.heap.size, 6, none⟩ = some (.slice (some ⟨bb, o, none⟩) t.kids.length ccap) ∧ CellsT wr.drew bb (o + k * 7) z) := Lib.hid ⟨(c7_of ((BX.out.up HB1.out).up (Below.refl wr.heap.size wr).drew).cat).2.2.2.2.2.2, hz.up HDR.out⟩
        clear hiz hz hu
        go_wp2_with fail
        go_region_held3 (fun W => W.cell? ⟨w.heap.size, 6, none⟩ = some (.slice (some ⟨bb, o, none⟩) t.kids.length ccap) ∧ W.cell? ⟨bb, o + k * 7, none⟩ = some (.int .u8 z.k) ∧ W.cell? ⟨bb, o + k * 7 + 1, none⟩ = some (.int .i64 z.r.x) ∧ W.cell? ⟨bb, o + k * 7 + 2, none⟩ = some (.int .i64 z.r.y) ∧ W.cell? ⟨bb, o + k * 7 + 3, none⟩ = some (.int .i64 z.r.w) ∧ W.cell? ⟨bb, o + k * 7 + 4, none⟩ = some (.int .i64 z.r.h) ∧ W.cell? ⟨bb, o + k * 7 + 5, none⟩ = some (.int .i64 z.id) ∧ W.cell? ⟨bb, o + k * 7 + 6, none⟩ = some (.slice z.a z.n z.cap)) (first | exact X0.out | exact X1.out | exact X2.out | exact X3.out | exact X4.out)
          (first
            | (go_at_call 38; (with_reducible refine (rsize_any z.r 2 _).mono ?_); rintro e w4 ⟨rfl, hb4⟩; have B4 := Lib.hid hb4; have X1 := Lib.hid (adjx_up X0.out hb4); have B4w := Lib.hid (HDR.out.trans (hb4.mono HDR.out.size)); clear hb4)
            | (go_at_call 58; (with_reducible refine (HOF.out w4 B4w.out).mono ?_); rintro e w5 ⟨rfl, hb5⟩; have B5 := Lib.hid (B4.out.trans (hb5.mono B4.out.size)); have X2 := Lib.hid (adjx_up X1.out hb5); clear hb5; have X3 := Lib.hid (adjx_up X2.out ((Below.refl w5.heap.size w5).alloc (Nat.le_refl _) (.cells #[.int .i64 (szA z.r 2 - lsT 2 u)] 3))))
            | (refine step_append_int rfl _ _ rfl (cellW w ⟨ck, ⟨cr.x, cr.y, cr.w, cr.h + b⟩, cid, some ⟨bb, o, none⟩, t.kids.length, ccap⟩).heap.size u7 ((t.kids.take k).map (gvT 2)) _ (szA z.r 2 - lsT 2 u) rfl ((HO.out.up ((Below.refl wr.heap.size wr).drew.trans B5.out)).up ((Below.refl _ _).alloc (Nat.le_refl _) _)) rfl (by simp) (by have := HKL.out; simp; omega) (cellW w ⟨ck, ⟨cr.x, cr.y, cr.w, cr.h + b⟩, cid, some ⟨bb, o, none⟩, t.kids.length, ccap⟩) ((HB1.out.trans (((Below.refl wr.heap.size wr).drew.trans B5.out).mono HB1.out.size)).alloc (by have := HB1.out.size; have := B5.out.size; exact Nat.le_trans HB1.out.size B5.out.size) _) (Nat.le_refl _) ?_
               intro g6 cap6 w6 hown6 hb6 hgr6 hpl6
               have O6 := Lib.hid hown6
               have B6 := Lib.hid hb6
               have X4 := Lib.hid (adjx_w (BW.out.trans (hb6.mono BW.out.size)) BX.out hb6 HZ.out)
               clear hown6 hb6 hgr6 hpl6))
        go_wp2
        go_roundg (gk - 1)
        case measure => have := HG.out; omega
        case rel =>
          refine ⟨k + 1, by have := HG.out; omega, by omega, by go_num, ?_, B6.out⟩
          rw [HTAKE.out]
          have hmin : min k t.kids.length = k := by omega
          have h6 := O6.out
          simp only [List.length_map, List.length_take, hmin] at h6
          simpa using h6
      · obtain rfl : k = t.kids.length := by omega
        have hkl : ((t.kids.length : Int) < (t.kids.length : Int)) = False := by simp
        have HO1 : Hid (OwnI wr (cellW w ⟨ck, ⟨cr.x, cr.y, cr.w, cr.h + b⟩, cid, ca, t.kids.length, ccap⟩).heap.size u7 (t.kids.map (gvT 2))) := Lib.hid (by have := HO.out; rw [List.take_length] at this; exact this)
        clear HO
        have HSF : Hid (∀ (j : Nat) (u : T), t.kids[j]? = some u → (alB ck 2 = true → ∃ l, ShIs b (t.kids.map (gvT 2)) l) → ∀ W, Below w.heap.size w W → ∀ z, Is w z u → Calls Tryz.prog 59 #[cval z, .int .u8 2, .int .i64 (shF ck 2 b (t.kids.map (gvT 2)) j)] W (GrSays (fun _ => True) (adjT 2 (shF ck 2 b (t.kids.map (gvT 2)) j) u) W)) := Lib.hid fun j u hj hsh W hW z hz => HIH.out u z _ W (by have := HS.out; have := sz_kid hj; omega) (by have := HM.out; have := sz_kid hj; omega) (HTK.out j u hj).1 (HCAN.out j u hj hsh) (hz.up hW)
        have HAL := Lib.hid (fun W => ralong_any ⟨ck, ⟨cr.x, cr.y, cr.w, cr.h + b⟩, cid, ca, t.kids.length, ccap⟩ 2 W)
        obtain ⟨s0, s1, s2, s3, s4, s5, s6⟩ := c7_of (BX.out.up HB1.out).cat
        have HE0 : Hid (OwnI (wr.alloc (.cells #[] 3)) (cellW w ⟨ck, ⟨cr.x, cr.y, cr.w, cr.h + b⟩, cid, ca, t.kids.length, ccap⟩).heap.size (.slice (some ⟨wr.heap.size, 0, none⟩) 0 0) []) := Lib.hid (OwnI.empty wr _ HB1.out.size)
        have hba : Below wr.heap.size wr (wr.alloc (.cells #[] 3)) := (Below.refl _ _).alloc (Nat.le_refl _) _
        have HB2 := Lib.hid (HB1.out.trans (hba.mono HB1.out.size))
        have HO2 := Lib.hid (HO1.out.up hba)
        obtain ⟨s0, s1, s2, s3, s4, s5, s6⟩ := c7_of (BX.out.up HB2.out).cat
        clear hba HO1
        go_wp2_with fail
        refine (HAL.out _).mono ?_
        rintro e w2 ⟨rfl, hb2⟩
        have HB3 := Lib.hid (HB2.out.trans (hb2.mono HB2.out.size))
        have HE3 := Lib.hid (HE0.out.up hb2)
        have HO3 := Lib.hid (HO2.out.up hb2)
        clear hb2 HE0 HO2 HB2 s0 s1 s2 s3 s4 s5 s6
        cases hal : alB ck 2 with
        | true =>
          have hok := HOKS.out hal
          have HSH := Lib.hid (rshares_any b u7 (t.kids.map (gvT 2)) w2 HO3.out.row HBF.out (by rw [List.length_map]; have := HKL.out; omega))
          go_wp2_with fail
          refine HSH.out.mono ?_
          rintro e w3 ⟨hb3, hcase⟩
          rcases hcase with ⟨-, v3, l3, rfl, hl3, hrow3⟩ | ⟨hno, -⟩
          · have HL3 := Lib.hid hl3
            have HEX : Hid (alB ck 2 = true → ∃ l, ShIs b (t.kids.map (gvT 2)) l) := Lib.hid fun _ => ⟨l3, hl3⟩
            have hlen3 : l3.length = t.kids.length := by rw [hl3.len, List.length_map]
            have HSV : Hid (∀ j, j < t.kids.length → l3[j]? = some (shF ck 2 b (t.kids.map (gvT 2)) j)) := Lib.hid fun j hj => by
              have hj' : j < l3.length := by omega
              unfold shF
              rw [if_pos hal, shL_of hl3, List.getD_eq_getElem?_getD, List.getElem?_eq_getElem hj']
              rfl
            have HB4 := Lib.hid (HB3.out.trans (hb3.mono HB3.out.size))
            have HR3 := Lib.hid hrow3
            obtain ⟨a3, cap3, rfl⟩ := row_shape hrow3
            clear hb3 hl3 hrow3 HSH HE3 HO3 HB3
            have hlen4 := Lib.hid hlen3
            rw [hlen3]
            clear hlen3
            have hpos : 0 < t.kids.length := by
              have := hok.1
              rcases Nat.eq_zero_or_pos t.kids.length with h | h
              · rw [List.length_eq_zero_iff.1 h] at this; exact absurd rfl this
              · exact h
            obtain ⟨aa3, cap3', he3, h03, hc3⟩ := HR3.out
            rw [ints_length] at he3
            have haa : a3 = aa3 := by cases he3; rfl
            subst haa
            obtain ⟨b3, o3, rfl, hcell3⟩ := row_at h03 hc3 (by rw [ints_length, hlen4.out]; exact hpos)
            have HRC := Lib.hid hcell3
            clear h03 hc3 hcell3 he3 hok
            have HBK := Lib.hid (BW.out.trans (HB4.out.mono BW.out.size))
            generalize hF : shF ck 2 b (t.kids.map (gvT 2)) = F at HSF HSV 
            have HEF : Hid (adjT 2 b t = .node ck ⟨cr.x, cr.y, cr.w, cr.h + b⟩ cid (adjL 2 F t.kids)) := Lib.hid (by rw [HE2.out, hF])
            clear hF
            have hba : Below w3.heap.size w3 (w3.alloc (.cells #[] 26)) := (Below.refl _ _).alloc (Nat.le_refl _) _
            obtain ⟨s0, s1, s2, s3, s4, s5, s6⟩ := c7_of ((BX.out.up HB4.out).up hba).cat
            have HG0 : Hid (Grove (fun _ => True) (w3.alloc (.cells #[] 26)) w3.heap.size (.slice (some ⟨w3.heap.size, 0, none⟩) 0 0) [] (adjL 2 F (t.kids.take 0))) := Lib.hid (by simpa [adjL] using Grove.empty (fun _ => True) w3 _ (Nat.le_refl _))
            have HBA := Lib.hid hba
            clear hba
            go_wp2
            go_loopg [10, 70] (t.kids.length + 1) (fun g v i wq => ∃ (k : Nat) (cs : List C), g + k = t.kids.length + 1 ∧ k ≤ t.kids.length ∧ i = .int .i64 k ∧ Grove (fun _ => True) wq w3.heap.size v cs (adjL 2 F (t.kids.take k)) ∧ Below w3.heap.size w3 wq)
            case atStart => exact ⟨0, [], by omega, by omega, rfl, HG0.out, HBA.out⟩
            case round =>
              clear s0 s1 s2 s3 s4 s5 s6
              obtain ⟨k, cs, hg, hk, rfl, hgr, hbq⟩ := hrel
              have HG := Lib.hid hg
              have HF := Lib.hid hgr
              have HBq := Lib.hid hbq
              clear hg hgr hbq
              have HBQ := Lib.hid (HBK.out.trans (HBq.out.mono HBK.out.size))
              by_cases hlt : k < t.kids.length
              · have hlti : (k : Int) < (t.kids.length : Int) := by omega
                obtain ⟨bb, o, rfl, hf⟩ := HR.out.place (by omega)
                obtain ⟨u, hu⟩ : ∃ u, t.kids[k]? = some u := ⟨_, List.getElem?_eq_getElem hlt⟩
                obtain ⟨z, hz, hiz⟩ := hf k u hu
                clear hf
                have HK := Lib.hid (HSF.out k u hu HEX.out wr HBQ.out z hiz)
                have HST := Lib.hid (adjL_step (ax := 2) (s := F) hu)
                have HLC := Lib.hid (show cs.length ≤ 990 by have := HF.out.len; rw [adjL_len, List.length_take] at this; have := HKL.out; omega)
                obtain ⟨c0, c1, c2, c3, c4, c5, c6⟩ := hz.up HBQ.out
                obtain ⟨s0, s1, s2, s3, s4, s5, s6⟩ := c7_of ((BX.out.up HB4.out).up HBq.out).cat
                have hsv := HSV.out k hlt
                have r0 : wr.cell? ⟨b3, o3 + k, none⟩ = some (.int .i64 (F k)) := by
                  have h1 := HRC.out k (.int .i64 (F k)) (by unfold ints; rw [List.getElem?_map, hsv]; rfl)
                  exact (HBq.out.cell (lt_of_cell h1)).trans h1
                clear hsv
                clear hiz hz hu
                go_wp2_with fail
                refine HK.out.mono ?_
                rintro e w5 ⟨d, rfl, hst, hb5⟩
                have HD := Lib.hid hst
                have HB12 := Lib.hid hb5
                have HB5 := Lib.hid (HBq.out.trans (HB12.out.mono HBq.out.size))
                clear hst hb5 c0 c1 c2 c3 c4 c5 c6 s0 s1 s2 s3 s4 s5 s6
                go_wp2_with (at_builtin; refine wpList_append_cells rfl _ _ rfl w3.heap.size u10 _ cs [d] rfl (HF.out.row.up (HB12.out.trans (((Below.refl w5.heap.size w5).alloc (Nat.le_refl _) (cbox d)).mono HB12.out.size))) rfl (OwnC.one w5 0 (Nat.zero_le _) d).row (by simp) (by have := HLC.out; simp only [List.length_cons, List.length_nil]; omega) w3 (HB5.out.alloc HB5.out.size _) (Nat.le_refl _) ?_; intro g cap6 w6 hown6 hb6 hgr6 hpl6)
                have HF6 := Lib.hid (HF.out.one HB12.out ((Below.refl _ _).alloc (Nat.le_refl _) (cbox d)) HBq.out.size HD.out hown6 hgr6 hpl6)
                have HB6 := Lib.hid hb6
                clear hown6 hb6 hgr6 hpl6
                go_wp2
                go_roundg (gk - 1)
                case measure => have := HG.out; omega
                case rel =>
                  refine ⟨k + 1, cs ++ [d], by have := HG.out; omega, by omega, by go_num, ?_, HB6.out⟩
                  rw [HST.out]
                  simpa using HF6.out
              · obtain rfl : k = t.kids.length := by omega
                have hkl : ((t.kids.length : Int) < (t.kids.length : Int)) = False := by simp
                have HFA : Hid (Grove (fun _ => True) wr (w.heap.size + 2) u10 cs (adjL 2 F t.kids)) := Lib.hid (by
                  have h1 := HF.out
                  rw [List.take_length] at h1
                  exact h1.lower (by have := HB4.out.size; have := SW.out; omega))
                obtain ⟨a', cap', rfl⟩ := HF.out.row.row.shape
                have HBX := Lib.hid ((BX.out.up HB4.out).up HBq.out)
                have HZX := Lib.hid (zero_up (zero_up ZX.out HB4.out) HBq.out)
                obtain ⟨c0, c1, c2, c3, c4, c5, c6⟩ := c7_of HBX.out.cat
                have g6 := HBX.out.free 6
                obtain ⟨⟨z0, z1, z2, z3, z4, z5, z6⟩, f0, f1, f2, f3, f4, f5, f6⟩ := zero_parts HZX.out
                go_wp2
                (try simp only [Exit.inBlock, Exit.then])
                have hset : (wr.setCell ⟨w.heap.size, 6, none⟩ (.slice a' cs.length cap')).heap[w.heap.size + 1]? = wr.heap[w.heap.size + 1]? := Below.heap_setCell wr ⟨w.heap.size, 6, none⟩ _ _ (by simp)
                have hz2 : Box7 (wr.setCell ⟨w.heap.size, 6, none⟩ (.slice a' cs.length cap')) (w.heap.size + 1) ⟨0, ⟨0, 0, 0, 0⟩, 0, none, 0, 0⟩ := hset.trans HZX.out
                refine bodyPost_ret (results_cell1 rfl _ _ (w.heap.size + 1) ⟨ck, ⟨cr.x, cr.y, cr.w, cr.h + b⟩, cid, a', cs.length, cap'⟩ rfl (hz2.put ⟨ck, ⟨cr.x, cr.y, cr.w, cr.h + b⟩, cid, a', cs.length, cap'⟩)) rfl ?_
                exact gr_end HEF.out HBQ.out HFA.out HFINE.out.1 HRF.out HFINE.out.2.2.1 (by rw [adjL_len]; have := HKL.out; omega)
          · exact absurd hok hno
        | false =>
          have HEX : Hid (alB ck 2 = true → ∃ l, ShIs b (t.kids.map (gvT 2)) l) := Lib.hid fun h => by rw [hal] at h; cases h
          have HSB : Hid (∀ j, shF ck 2 b (t.kids.map (gvT 2)) j = b) := Lib.hid fun j => by unfold shF; rw [if_neg (by rw [hal]; decide)]
          have HBK := Lib.hid (BW.out.trans (HB3.out.mono BW.out.size))
          generalize hF : shF ck 2 b (t.kids.map (gvT 2)) = F at HSF HSB
          have HEF : Hid (adjT 2 b t = .node ck ⟨cr.x, cr.y, cr.w, cr.h + b⟩ cid (adjL 2 F t.kids)) := Lib.hid (by rw [HE2.out, hF])
          clear hF
          have hba : Below w2.heap.size w2 (w2.alloc (.cells #[] 26)) := (Below.refl _ _).alloc (Nat.le_refl _) _
          obtain ⟨s0, s1, s2, s3, s4, s5, s6⟩ := c7_of ((BX.out.up HB3.out).up hba).cat
          have HG0 : Hid (Grove (fun _ => True) (w2.alloc (.cells #[] 26)) w2.heap.size (.slice (some ⟨w2.heap.size, 0, none⟩) 0 0) [] (adjL 2 F (t.kids.take 0))) := Lib.hid (by simpa [adjL] using Grove.empty (fun _ => True) w2 _ (Nat.le_refl _))
          have HBA := Lib.hid hba
          clear hba
          go_wp2
          go_loopg [10, 70] (t.kids.length + 1) (fun g v i wq => ∃ (k : Nat) (cs : List C), g + k = t.kids.length + 1 ∧ k ≤ t.kids.length ∧ i = .int .i64 k ∧ Grove (fun _ => True) wq w2.heap.size v cs (adjL 2 F (t.kids.take k)) ∧ Below w2.heap.size w2 wq)
          case atStart => exact ⟨0, [], by omega, by omega, rfl, HG0.out, HBA.out⟩
          case round =>
            clear s0 s1 s2 s3 s4 s5 s6
            obtain ⟨k, cs, hg, hk, rfl, hgr, hbq⟩ := hrel
            have HG := Lib.hid hg
            have HF := Lib.hid hgr
            have HBq := Lib.hid hbq
            clear hg hgr hbq
            have HBQ := Lib.hid (HBK.out.trans (HBq.out.mono HBK.out.size))
            by_cases hlt : k < t.kids.length
            · have hlti : (k : Int) < (t.kids.length : Int) := by omega
              obtain ⟨bb, o, rfl, hf⟩ := HR.out.place (by omega)
              obtain ⟨u, hu⟩ : ∃ u, t.kids[k]? = some u := ⟨_, List.getElem?_eq_getElem hlt⟩
              obtain ⟨z, hz, hiz⟩ := hf k u hu
              clear hf
              have HK := Lib.hid (HSF.out k u hu HEX.out wr HBQ.out z hiz)
              have HST := Lib.hid (adjL_step (ax := 2) (s := F) hu)
              have HLC := Lib.hid (show cs.length ≤ 990 by have := HF.out.len; rw [adjL_len, List.length_take] at this; have := HKL.out; omega)
              obtain ⟨c0, c1, c2, c3, c4, c5, c6⟩ := hz.up HBQ.out
              obtain ⟨s0, s1, s2, s3, s4, s5, s6⟩ := c7_of ((BX.out.up HB3.out).up HBq.out).cat
              rw [HSB.out k] at HK
              have HFK := Lib.hid (HSB.out k)
              clear hiz hz hu
              go_wp2_with fail
              refine HK.out.mono ?_
              rintro e w5 ⟨d, rfl, hst, hb5⟩
              have HD := Lib.hid hst
              have HB12 := Lib.hid hb5
              have HB5 := Lib.hid (HBq.out.trans (HB12.out.mono HBq.out.size))
              clear hst hb5 c0 c1 c2 c3 c4 c5 c6 s0 s1 s2 s3 s4 s5 s6
              go_wp2_with (at_builtin; refine wpList_append_cells rfl _ _ rfl w2.heap.size u10 _ cs [d] rfl (HF.out.row.up (HB12.out.trans (((Below.refl w5.heap.size w5).alloc (Nat.le_refl _) (cbox d)).mono HB12.out.size))) rfl (OwnC.one w5 0 (Nat.zero_le _) d).row (by simp) (by have := HLC.out; simp only [List.length_cons, List.length_nil]; omega) w2 (HB5.out.alloc HB5.out.size _) (Nat.le_refl _) ?_; intro g cap6 w6 hown6 hb6 hgr6 hpl6)
              have HF6 := Lib.hid (HF.out.one HB12.out ((Below.refl _ _).alloc (Nat.le_refl _) (cbox d)) HBq.out.size HD.out hown6 hgr6 hpl6)
              have HB6 := Lib.hid hb6
              clear hown6 hb6 hgr6 hpl6
              go_wp2
              go_roundg (gk - 1)
              case measure => have := HG.out; omega
              case rel =>
                refine ⟨k + 1, cs ++ [d], by have := HG.out; omega, by omega, by go_num, ?_, HB6.out⟩
                rw [HST.out]
                rw [HFK.out]
                simpa using HF6.out
            · obtain rfl : k = t.kids.length := by omega
              have hkl : ((t.kids.length : Int) < (t.kids.length : Int)) = False := by simp
              have HFA : Hid (Grove (fun _ => True) wr (w.heap.size + 2) u10 cs (adjL 2 F t.kids)) := Lib.hid (by
                have h1 := HF.out
                rw [List.take_length] at h1
                exact h1.lower (by have := HB3.out.size; have := SW.out; omega))
              obtain ⟨a', cap', rfl⟩ := HF.out.row.row.shape
              have HBX := Lib.hid ((BX.out.up HB3.out).up HBq.out)
              have HZX := Lib.hid (zero_up (zero_up ZX.out HB3.out) HBq.out)
              obtain ⟨c0, c1, c2, c3, c4, c5, c6⟩ := c7_of HBX.out.cat
              have g6 := HBX.out.free 6
              obtain ⟨⟨z0, z1, z2, z3, z4, z5, z6⟩, f0, f1, f2, f3, f4, f5, f6⟩ := zero_parts HZX.out
              go_wp2
              (try simp only [Exit.inBlock, Exit.then])
              have hset : (wr.setCell ⟨w.heap.size, 6, none⟩ (.slice a' cs.length cap')).heap[w.heap.size + 1]? = wr.heap[w.heap.size + 1]? := Below.heap_setCell wr ⟨w.heap.size, 6, none⟩ _ _ (by simp)
              have hz2 : Box7 (wr.setCell ⟨w.heap.size, 6, none⟩ (.slice a' cs.length cap')) (w.heap.size + 1) ⟨0, ⟨0, 0, 0, 0⟩, 0, none, 0, 0⟩ := hset.trans HZX.out
              refine bodyPost_ret (results_cell1 rfl _ _ (w.heap.size + 1) ⟨ck, ⟨cr.x, cr.y, cr.w, cr.h + b⟩, cid, a', cs.length, cap'⟩ rfl (hz2.put ⟨ck, ⟨cr.x, cr.y, cr.w, cr.h + b⟩, cid, a', cs.length, cap'⟩)) rfl ?_
              exact gr_end HEF.out HBQ.out HFA.out HFINE.out.1 HRF.out HFINE.out.2.2.1 (by rw [adjL_len]; have := HKL.out; omega)

end Go.Proofs.YtcdiogifgemjbaaGreat
