/- Texts of this seat, 3 in one file. -/
import Derived.Test.YtbbjnimadnbmnaaGreatG44
import Derived.Test.YtbbjnimadnbmnaaGreatG39
import Derived.Test.YtbbjnimadnbmnaaGreatG15
import Derived.Test.YtbbjnimadnbmnaaGreatG17
import Derived.Test.YtbbjnimadnbmnaaGreatG42
import Derived.Test.YtbbjnimadnbmnaaGreatG06
/- Two cells, turned round: slices.Reverse. -/
namespace Go.Proofs.YtbbjnimadnbmnaaGreat
open Go.RowKit

theorem two_cells {w : World} {base g : Nat} {c d : C} (h : OwnC w base (.slice (some ⟨g, 0, none⟩) 2 2) [c, d]) : CAt w g 0 c ∧ CAt w g 7 d ∧ base ≤ g ∧ (∀ o, w.frozen? ⟨g, o, none⟩ = false) := by
  have hc := h.cells (g := g) rfl
  refine ⟨by simpa using cat_of_flat hc 0 c rfl, by simpa using cat_of_flat hc 1 d rfl, (own_block h rfl).1, fun o => ?_⟩
  rcases h.2 with ⟨h0, -⟩ | ⟨g', cap, cur, h0, hb, hg, -⟩
  · cases h0
  · cases h0; simp [World.frozen?, hg]
theorem two_turn {w : World} {base g : Nat} {c d : C} (h : OwnC w base (.slice (some ⟨g, 0, none⟩) 2 2) [c, d]) : OwnC (putO (putO w g 0 d) g 7 c) base (.slice (some ⟨g, 0, none⟩) 2 2) [d, c] := by
  have h1 : OwnC (putO w g 0 d) base (.slice (some ⟨g, 0, none⟩) 2 2) [d, d] := by
    have := own_put (w' := putO w g 0 d) (j := 0) (y := d) h (by simp) (by simp)
    simpa using this
  have h2 := own_put (w' := putO (putO w g 0 d) g 7 c) (j := 1) (y := c) h1 (by simp) (by simp)
  simpa using h2

set_option maxHeartbeats 2000000 in
set_option maxRecDepth 100000 in
theorem rev2_any (c d : C) (base g : Nat) (w : World) (h : OwnC w base (.slice (some ⟨g, 0, none⟩) 2 2) [c, d]) :
    Calls Tryz.prog 29 #[.slice (some ⟨g, 0, none⟩) 2 2] w fun e w' => e = .returned (.tuple #[]) ∧ OwnC w' base (.slice (some ⟨g, 0, none⟩) 2 2) [d, c] ∧ Below base w w' := by
  have H := Lib.hid h
  clear h
  go_enter Tryz.func29, Tryz.ntmps29
  go_wp2
  go_loopg [2, 3] 3 (fun n i j wr => (n = 3 ∧ i = .int .i64 0 ∧ j = .int .i64 1 ∧ wr = w) ∨ (n = 2 ∧ i = .int .i64 1 ∧ j = .int .i64 0 ∧ OwnC wr base (.slice (some ⟨g, 0, none⟩) 2 2) [d, c] ∧ Below base w wr))
  case atStart => exact .inl ⟨rfl, rfl, rfl, rfl⟩
  case round =>
    rcases hrel with ⟨hn, rfl, rfl, rfl⟩ | ⟨hn, rfl, rfl, hown, hb⟩
    · have HN := Lib.hid hn
      clear hn
      obtain ⟨⟨c0, c1, c2, c3, c4, c5, c6⟩, ⟨d0, d1, d2, d3, d4, d5, d6⟩, hbg, hf⟩ := two_cells H.out
      have HBG := Lib.hid hbg
      simp only [Nat.zero_add, Nat.reduceAdd] at c1 c2 c3 c4 c5 c6 d1 d2 d3 d4 d5 d6
      have f0 := hf 0
      have f1 := hf 1
      have f2 := hf 2
      have f3 := hf 3
      have f4 := hf 4
      have f5 := hf 5
      have f6 := hf 6
      have f7 := hf 7
      have f8 := hf 8
      have f9 := hf 9
      have f10 := hf 10
      have f11 := hf 11
      have f12 := hf 12
      have f13 := hf 13
      clear hf hbg
      have HT := Lib.hid ((two_turn H.out).up (Below.refl _ _).drew)
      have HB2 : Hid (Below base wr (putO (putO wr g 0 d) g 7 c).drew) := Lib.hid (below_putO (below_putO (Below.refl base wr) HBG.out 0 d) HBG.out 7 c).drew
      go_wp2
      go_region
      go_wp2
      go_roundg 2
      case measure => have := HN.out; omega
      case rel =>
        refine .inr ⟨rfl, rfl, rfl, ?_, ?_⟩
        · have h1 := HT.out
          simp only [putO, Nat.zero_add, Nat.reduceAdd] at h1
          exact h1
        · have h1 := HB2.out
          simp only [putO, Nat.zero_add, Nat.reduceAdd] at h1
          exact h1
    · have HN := Lib.hid hn
      have HO := Lib.hid hown
      have HB := Lib.hid hb
      clear hn hown hb
      go_wp2
      go_end0
      exact ⟨rfl, HO.out, HB.out⟩
end Go.Proofs.YtbbjnimadnbmnaaGreat
/- A leaf is split: the program's answer. -/
namespace Go.Proofs.YtbbjnimadnbmnaaGreat
open Go.RowKit

theorem free_yes {fresh : Int} {t : T} (h : freeB fresh t = true) : 0 ≤ fresh ∧ fresh ≤ 2147483647 ∧ findT fresh t = none := by
  unfold freeB at h
  simp only [Bool.and_eq_true, decide_eq_true_eq, Bool.not_eq_true', Option.isSome_eq_false_iff, Option.isNone_iff_eq_none] at h
  exact ⟨h.1.1, h.1.2, h.2⟩
theorem sp_taken {t : T} {id ax z fresh : Int} {ahead : Bool} (hs : sz t ≤ 20000) (ht : tileB t = true) (ha : axB ax = true) (hz : 0 ≤ z) (h : freeB fresh t = false) : spE t id ax z fresh ahead = 1 := by
  by_cases h1 : 0 ≤ fresh ∧ fresh ≤ 2147483647
  · refine sp_dup ⟨ht, ha, hz, h1.1, h1.2⟩ ?_
    cases hf : findT fresh t with
    | none =>
      unfold freeB at h
      rw [hf, decide_eq_true h1.1, decide_eq_true h1.2] at h
      simp at h
    | some p =>
      obtain ⟨u, hu, -, -, -⟩ := find_there hf
      rw [(lf_some hs ht hf hu).1]; rfl
  · exact sp_arg fun e => h1 ⟨e.2.2.2.1, e.2.2.2.2⟩
theorem two_empt {r : R} {id ax a b fresh : Int} {q1 q2 : Option Addr × Nat} (hr : r.fits) (hi : fits id) (ha : fits a) (hb : fits b) (hf : fits fresh) (W : World) :
    Tops W [emptC (cutR r ax a) id q1, emptC (cutR r ax b) fresh q2] (twoL r id ax a b fresh false) ∧ Tops W [emptC (cutR r ax b) fresh q2, emptC (cutR r ax a) id q1] (twoL r id ax a b fresh true) := by
  have h1 := Tops.one (empt_is W (q := q1) (cutR_fits (ax := ax) hr ha) hi)
  have h2 := Tops.one (empt_is W (q := q2) (cutR_fits (ax := ax) hr hb) hf)
  exact ⟨h1.append h2, h2.append h1⟩

set_option maxHeartbeats 1000000 in
set_option maxRecDepth 100000 in
theorem leaf_untiled (t : T) (c : C) (id ax z fresh : Int) (ahead : Bool) (w : World) (hi : Is w c t) (ht : tileB t = false) : Calls Tryz.prog 13 #[cval c, .int .i64 id, .int .u8 ax, .int .i64 z, .int .i64 fresh, .bool ahead] w (SpSays t id ax z fresh ahead .i64 w) := by
  have L0 := Lib.hid (ASt.start w c)
  have HT := Lib.hid (tilesOne_any t c (cellW w c) (L0.out.is hi) may_small (w.heap.size + 2) (by simp))
  have HE := Lib.hid (sp_arg (id := id) (ahead := ahead) (t := t) (ax := ax) (z := z) (fresh := fresh) fun e => by rw [ht] at e; cases e.1)
  rw [ht] at HT
  clear hi ht
  obtain ⟨c0, c1, c2, c3, c4, c5, c6⟩ := c7_of L0.out.box.cat
  go_enter Tryz.func13, Tryz.ntmps13
  go_wp2_with fail
  refine HT.out.mono ?_
  rintro e w1 ⟨rfl, hb1⟩
  have L1 := Lib.hid (L0.out.up hb1)
  clear hb1
  obtain ⟨⟨z0, z1, z2, z3, z4, z5, z6⟩, f0, f1, f2, f3, f4, f5, f6⟩ := zero_parts L1.out.zero
  go_wp2
  (try simp only [Exit.inBlock, Exit.then])
  refine bodyPost_ret (results_c2 rfl _ _ (w.heap.size + 1) noC rfl ((Box7.of_zero L1.out.zero).put noC)) rfl ?_
  exact sp_err HE.out (by decide) (below_put7 L1.out.below (by omega) noC)

set_option maxHeartbeats 2000000 in
set_option maxRecDepth 100000 in
theorem leaf_tiled (t : T) (c : C) (id ax z fresh : Int) (ahead : Bool) (w : World) (hi : Is w c t) (ht : tileB t = true) (hz : fits z) (hfr : fits fresh) : Calls Tryz.prog 13 #[cval c, .int .i64 id, .int .u8 ax, .int .i64 z, .int .i64 fresh, .bool ahead] w (SpSays t id ax z fresh ahead .i64 w) := by
  have hs := may_small (tile_may ht)
  have L0 := Lib.hid (ASt.start w c)
  have HT := Lib.hid (tilesOne_any t c (cellW w c) (L0.out.is hi) may_small (w.heap.size + 2) (by simp))
  rw [ht] at HT
  have HSZ := Lib.hid (fun W => lsize_any c.r ax W)
  have HCR : Hid (t.r = c.r) := Lib.hid hi.split.2.1
  have HI := Lib.hid hi
  have HS := Lib.hid hs
  have HTT := Lib.hid ht
  have HZ := Lib.hid hz
  have HF := Lib.hid hfr
  have hpos : axB ax = true → 1 ≤ szA c.r ax := fun h => by
    have := szA_pos (well_rect (tile_top hs ht).1) ((axB_iff ax).1 h)
    rw [hi.split.2.1] at this
    exact this.1
  have hnone : axB ax = false → szA c.r ax = 0 := fun h => szA_none h
  have HPOS := Lib.hid hpos
  have HNONE := Lib.hid hnone
  clear hi hs ht hz hfr hpos hnone
  obtain ⟨c0, c1, c2, c3, c4, c5, c6⟩ := c7_of L0.out.box.cat
  go_enter Tryz.func13, Tryz.ntmps13
  go_wp2_with fail
  refine HT.out.mono ?_
  rintro e w1 ⟨rfl, hb1⟩
  have L1 := Lib.hid (L0.out.up hb1)
  clear hb1 c0 c1 c2 c3 c4 c5 c6 HT
  obtain ⟨c0, c1, c2, c3, c4, c5, c6⟩ := c7_of L1.out.box.cat
  go_wp2_with fail
  refine (HSZ.out w1).mono ?_
  rintro e w2 ⟨rfl, hb2⟩
  have L2 := Lib.hid (L1.out.up hb2)
  clear hb2 c0 c1 c2 c3 c4 c5 c6 HSZ L1
  cases hax : axB ax with
  | false =>
    have HE := Lib.hid (sp_arg (id := id) (ahead := ahead) (t := t) (ax := ax) (z := z) (fresh := fresh) fun e => by rw [hax] at e; exact absurd e.2.1 (by decide))
    rw [HNONE.out hax]
    clear hax
    obtain ⟨⟨z0, z1, z2, z3, z4, z5, z6⟩, f0, f1, f2, f3, f4, f5, f6⟩ := zero_parts L2.out.zero
    go_wp2
    (try simp only [Exit.inBlock, Exit.then])
    refine bodyPost_ret (results_c2 rfl _ _ (w.heap.size + 1) noC rfl ((Box7.of_zero L2.out.zero).put noC)) rfl ?_
    exact sp_err HE.out (by decide) (below_put7 L2.out.below (by omega) noC)
  | true =>
    have d0 : (szA c.r ax == 0) = false := by
      rw [beq_eq_false_iff_ne]
      have := HPOS.out hax
      omega
    by_cases hz0 : z < 0
    · have HE := Lib.hid (sp_arg (id := id) (ahead := ahead) (t := t) (ax := ax) (z := z) (fresh := fresh) fun e => by have := e.2.2.1; omega)
      have d1 : decide (z < 0) = true := decide_eq_true hz0
      clear hax hz0
      obtain ⟨⟨z0, z1, z2, z3, z4, z5, z6⟩, f0, f1, f2, f3, f4, f5, f6⟩ := zero_parts L2.out.zero
      go_wp2
      (try simp only [Exit.inBlock, Exit.then])
      refine bodyPost_ret (results_c2 rfl _ _ (w.heap.size + 1) noC rfl ((Box7.of_zero L2.out.zero).put noC)) rfl ?_
      exact sp_err HE.out (by decide) (below_put7 L2.out.below (by omega) noC)
    · have d1 : decide (z < 0) = false := decide_eq_false hz0
      have HZ0 : Hid (0 ≤ z) := Lib.hid (by omega)
      have HAX := Lib.hid hax
      have HFR := Lib.hid (pfree_any t c fresh w2 (by have := HS.out; omega) (L2.out.is HI.out))
      clear hax hz0
      obtain ⟨c0, c1, c2, c3, c4, c5, c6⟩ := c7_of L2.out.box.cat
      go_wp2_with fail
      refine HFR.out.mono ?_
      rintro e w3 ⟨rfl, hb3⟩
      have L3 := Lib.hid (L2.out.up hb3)
      clear hb3 c0 c1 c2 c3 c4 c5 c6 HFR d0 d1 L2
      cases hfb : freeB fresh t with
      | false =>
        have HE := Lib.hid (sp_taken (id := id) (ahead := ahead) HS.out HTT.out HAX.out HZ0.out hfb)
        clear hfb
        obtain ⟨⟨z0, z1, z2, z3, z4, z5, z6⟩, f0, f1, f2, f3, f4, f5, f6⟩ := zero_parts L3.out.zero
        go_wp2
        (try simp only [Exit.inBlock, Exit.then])
        refine bodyPost_ret (results_c2 rfl _ _ (w.heap.size + 1) noC rfl ((Box7.of_zero L3.out.zero).put noC)) rfl ?_
        exact sp_err HE.out (by decide) (below_put7 L3.out.below (by omega) noC)
      | true =>
        obtain ⟨g1, g2, g3⟩ := free_yes hfb
        have HOK : Hid (tileB t = true ∧ axB ax = true ∧ 0 ≤ z ∧ 0 ≤ fresh ∧ fresh ≤ 2147483647) := Lib.hid ⟨HTT.out, HAX.out, HZ0.out, g1, g2⟩
        have HFN : Hid ((lfF fresh t).isSome = false) := Lib.hid (by rw [lf_none g3]; rfl)
        have HFI := Lib.hid (pfind_any t c id w3 (by have := HS.out; omega) (L3.out.is HI.out))
        clear hfb g1 g2 g3
        obtain ⟨c0, c1, c2, c3, c4, c5, c6⟩ := c7_of L3.out.box.cat
        cases hf : findT id t with
        | none =>
          have HF2 : Hid (Calls Tryz.prog 27 #[cval c, .int .i64 id] w3 fun e w' => e = .returned (.tuple #[cval noC, .slice none 0 0, .bool false]) ∧ Below w3.heap.size w3 w') := HFI.out.mono fun e w' h => by
            unfold PfSays at h; rw [hf] at h; exact ⟨h.2, h.1⟩
          have HE := Lib.hid (sp_none (ahead := ahead) HOK.out HFN.out (lf_none hf))
          clear HFI hf
          go_wp2_with fail
          refine HF2.out.mono ?_
          rintro e w4 ⟨rfl, hb4⟩
          have L4 := Lib.hid ((L3.out.up hb4).up ((Below.refl w4.heap.size w4).alloc (Nat.le_refl _) (cbox noC)))
          clear hb4 c0 c1 c2 c3 c4 c5 c6
          obtain ⟨⟨z0, z1, z2, z3, z4, z5, z6⟩, f0, f1, f2, f3, f4, f5, f6⟩ := zero_parts L4.out.zero
          go_wp2
          (try simp only [Exit.inBlock, Exit.then])
          refine bodyPost_ret (results_c2 rfl _ _ (w.heap.size + 1) noC rfl ((Box7.of_zero L4.out.zero).put noC)) rfl ?_
          exact sp_err HE.out (by decide) (below_put7 L4.out.below (by omega) noC)
        | some p =>
          obtain ⟨u, hu, -, -, -⟩ := find_there hf
          obtain ⟨hlf, huk, hui⟩ := lf_some HS.out HTT.out hf hu
          obtain ⟨hut, hus⟩ := tile_at HS.out HTT.out hu
          have hsu : sz u ≤ 990 := by
            rw [sz_node, leaf_none (by have := HS.out; omega) hut huk]
            simp [szL]
          have HPL : Hid (p.length ≤ 1000000) := Lib.hid (by have := findT_len id p t hf; have := HS.out; omega)
          have HFT := Lib.hid hf
          have HU := Lib.hid hu
          have HAX2 := Lib.hid ((axB_iff ax).1 HAX.out)
          have HF2 : Hid (Calls Tryz.prog 27 #[cval c, .int .i64 id] w3 fun e w' => ∃ d a cap, e = .returned (.tuple #[cval d, .slice a p.length cap, .bool true]) ∧ Is w' d u ∧ PRow w' w3.heap.size (.slice a p.length cap) p ∧ Below w3.heap.size w3 w') := HFI.out.mono fun e w' h => by
            unfold PfSays at h; rw [hf] at h
            obtain ⟨hb, d, u', a, cap, he, hu', ⟨S, hS⟩, hr⟩ := h
            rw [hu] at hu'; cases hu'
            exact ⟨d, a, cap, he, hS.is, hr, hb⟩
          have HE := Lib.hid (sp_some (ahead := ahead) HOK.out HFN.out hlf)
          have HST := Lib.hid (show spT t id ax z fresh ahead = setT t.r.x t.r.y (inT id ax (bothT u ax z fresh ahead) t) by unfold spT; rw [hlf])
          have hub := szA_pos (well_rect (tile_top (by have := HS.out; omega) hut).1) HAX2.out
          have HHN := Lib.hid (fun (d : C) (W : World) (h : Is W d u) (h3 : szA u.r ax < 3) => halves_no u d ax z fresh W h h3 ⟨by omega, by omega⟩ HZ.out)
          have HHY := Lib.hid (fun (d : C) (W : World) (h : Is W d u) (h3 : 3 ≤ szA u.r ax) => halves_yes u d ax z fresh W hsu hut huk HAX2.out h h3 HZ0.out HZ.out)
          have HUB := Lib.hid hub
          clear HFI hf hu hlf huk hui hut hus hsu hub
          go_wp2_with fail
          refine HF2.out.mono ?_
          rintro e w4 ⟨d, pa, pcap, rfl, hisd, hprow, hb4⟩
          have al4 : Below w4.heap.size w4 (w4.alloc (cbox d)) := (Below.refl _ _).alloc (Nat.le_refl _) _
          have L5 := Lib.hid ((L3.out.up hb4).up al4)
          have D5 := Lib.hid (Box7.new w4 d)
          have IS5 := Lib.hid (hisd.up al4)
          have PR5 := Lib.hid (hprow.up al4)
          clear hb4 hisd hprow al4 c0 c1 c2 c3 c4 c5 c6 HF2
          obtain ⟨c0, c1, c2, c3, c4, c5, c6⟩ := c7_of D5.out.cat
          by_cases h3 : szA u.r ax < 3
          · have HE7 := Lib.hid (HE.out.trans (if_pos h3))
            have HN := Lib.hid (HHN.out d _ IS5.out h3)
            clear h3
            go_wp2_with fail
            refine HN.out.mono ?_
            rintro e w6 ⟨rfl, hb6⟩
            have L6 := Lib.hid (L5.out.up hb6)
            clear hb6 c0 c1 c2 c3 c4 c5 c6
            obtain ⟨⟨z0, z1, z2, z3, z4, z5, z6⟩, f0, f1, f2, f3, f4, f5, f6⟩ := zero_parts L6.out.zero
            go_wp2
            (try simp only [Exit.inBlock, Exit.then])
            refine bodyPost_ret (results_c2 rfl _ _ (w.heap.size + 1) noC rfl ((Box7.of_zero L6.out.zero).put noC)) rfl ?_
            exact sp_err HE7.out (by decide) (below_put7 L6.out.below (by omega) noC)
          · have HE := Lib.hid (HE.out.trans (if_neg h3))
            have hsp := spB_in (s := szA u.r ax) (z := z) (by omega) HZ0.out
            have HY := Lib.hid (HHY.out d _ IS5.out (by omega))
            have hfine := IS5.out.fine
            have hsplit := IS5.out.split
            have HTOPS := Lib.hid (fun q1 q2 W => two_empt (r := u.r) (id := u.id) (ax := ax) (a := szA u.r ax - 1 - spB (szA u.r ax) z) (b := spB (szA u.r ax) z) (fresh := fresh) (q1 := q1) (q2 := q2) (by rw [hsplit.2.1]; exact hfine.2.1) (by rw [hsplit.2.2.1]; exact hfine.2.2.1) (by have := HUB.out; unfold fits; omega) (by have := HUB.out; unfold fits; omega) HF.out W)
            clear h3 hsp hfine hsplit
            go_wp2_with fail
            refine HY.out.mono ?_
            rintro e w6 ⟨pg, q1, q2, rfl, hpair, hb6⟩
            have HB6 := Lib.hid hb6
            have PA6 := Lib.hid hpair
            clear hb6 hpair c0 c1 c2 c3 c4 c5 c6 HY
            cases ahead with
            | false =>
              have L7 := Lib.hid (L5.out.up HB6.out)
              have HTO := Lib.hid (fun W => (HTOPS.out q1 q2 W).1)
              have HRP := Lib.hid (replaced_any t u c p pa pcap w3.heap.size ax _ _ pg w6 HS.out HTT.out (L7.out.is HI.out) (PR5.out.up HB6.out) HPL.out HU.out HAX2.out (PA6.out.lower (Nat.zero_le _)) HTO.out)
              obtain ⟨c0, c1, c2, c3, c4, c5, c6⟩ := c7_of L7.out.box.cat
              go_wp2_with fail
              refine HRP.out.mono ?_
              rintro e w8 ⟨zz, g, pl, k, rfl, har, his, hb8⟩
              have hti : (putT (setT g.r.x g.r.y (swapK g k (twoL u.r u.id ax (szA u.r ax - 1 - spB (szA u.r ax) z) (spB (szA u.r ax) z) fresh false))) t pl).getD zT = setT t.r.x t.r.y (inT id ax (bothT u ax z fresh false) t) := by
                rw [around_is HAX2.out _ u g p t pl k HS.out HTT.out HFT.out HU.out har]; rfl
              rw [hti] at his
              have hsz : sz (setT t.r.x t.r.y (inT id ax (bothT u ax z fresh false) t)) = sz (inT id ax (bothT u ax z fresh false) t) := setT_sz _ _ _
              have hszb : sz (inT id ax (bothT u ax z fresh false) t) ≤ 60000 := by
                have h1 := inT_sz id ax (bothT u ax z fresh false) (twoL_sz _ _ _ _ _ _ _) t
                have h2 := HS.out
                omega
              generalize setT t.r.x t.r.y (inT id ax (bothT u ax z fresh false) t) = t' at his hsz HST
              generalize sz (inT id ax (bothT u ax z fresh false) t) = n' at hsz hszb HE
              have al8 : Below w8.heap.size w8 (w8.alloc (cbox zz)) := (Below.refl _ _).alloc (Nat.le_refl _) _
              have HW8 := Lib.hid hb8.size
              have L8 := Lib.hid ((L7.out.up hb8).up al8)
              have IS8 := Lib.hid ((his w8 (fun _ _ _ => rfl)).up al8)
              have BX8 := Lib.hid (Box7.new w8 zz)
              have hs8 : (w8.alloc (cbox zz)).heap.size = w8.heap.size + 1 := by simp
              have HCS := Lib.hid (size_any _ [t'] ((w8.alloc (cbox zz)).alloc (cbox zz)) (trow_one IS8.out) (by simp))
              have hw64 : wrap64 ((szL [t'] : Nat) : Int) = (n' : Int) := by
                have : szL [t'] = n' := by simp [szL, hsz]
                rw [this]
                exact wrap_small (by omega)
              rw [hw64, hs8] at HCS
              have HIS := Lib.hid his
              have HB89 : Hid (Below w8.heap.size w8 (w8.alloc (cbox zz))) := Lib.hid al8
              have NB : Hid (n' ≤ 60000) := Lib.hid hszb
              clear har his hb8 al8 hti hsz hw64 hszb hs8 c0 c1 c2 c3 c4 c5 c6 HRP
              obtain ⟨q0, q1, q2, q3, q4, q5, q6⟩ := c7_of BX8.out.cat
              go_wp2_with fail
              refine HCS.out.mono ?_
              rintro e w9 ⟨rfl, hb9⟩
              have al9 : Below (w8.alloc (cbox zz)).heap.size (w8.alloc (cbox zz)) ((w8.alloc (cbox zz)).alloc (cbox zz)) := (Below.refl _ _).alloc (Nat.le_refl _) _
              have hb9' := al9.trans (hb9.mono al9.size)
              have H9 := Lib.hid (HB89.out.trans (hb9'.mono HB89.out.size))
              have L9 := Lib.hid (L8.out.up hb9')
              have IS9 := Lib.hid (IS8.out.up hb9')
              have BX9 := Lib.hid (BX8.out.up hb9')
              have FAR9 : Hid (w.heap.size + 1 < w8.heap.size) := Lib.hid (by
                have h1 := lt_of_block L7.out.zero
                have h2 := HW8.out
                omega)
              clear hb9 hb9' al9 q0 q1 q2 q3 q4 q5 q6 HCS
              obtain ⟨⟨z0, z1, z2, z3, z4, z5, z6⟩, f0, f1, f2, f3, f4, f5, f6⟩ := zero_parts L9.out.zero
              by_cases hbig : 20000 < n'
              · have dn : decide ((20000 : Int) < (n' : Int)) = true := decide_eq_true (by omega)
                have HE8 := Lib.hid (HE.out.trans (if_pos hbig))
                clear hbig
                go_wp2
                (try simp only [Exit.inBlock, Exit.then])
                refine bodyPost_ret (results_c2 rfl _ _ (w.heap.size + 1) noC rfl ((Box7.of_zero L9.out.zero).put noC)) rfl ?_
                exact sp_err HE8.out (by decide) (below_put7 L9.out.below (by omega) noC)
              · have dn : decide ((20000 : Int) < (n' : Int)) = false := decide_eq_false (by omega)
                have HE8 := Lib.hid (HE.out.trans (if_neg hbig))
                clear hbig
                obtain ⟨q0, q1, q2, q3, q4, q5, q6⟩ := c7_of BX9.out.cat
                have hfar := FAR9.out
                go_wp2
                (try simp only [Exit.inBlock, Exit.then])
                refine bodyPost_ret (results_c2 rfl _ _ (w.heap.size + 1) zz rfl ((Box7.of_zero L9.out.zero).put zz)) rfl ?_
                refine sp_ok HE8.out HST.out ?_ (below_put7 L9.out.below (by omega) zz)
                have hw := lt_of_block L7.out.zero
                exact HIS.out _ fun m h1 h2 => (heap_put7 (by omega)).trans (H9.out.block m h2)
            | true =>
              go_wp2_with fail
              refine (rev2_any _ _ _ pg w6 PA6.out).mono ?_
              rintro e w7 ⟨rfl, hpair7, hb7⟩
              have HB7 := Lib.hid (HB6.out.trans hb7)
              have PA7 := Lib.hid hpair7
              clear hpair7 hb7
              have L7 := Lib.hid (L5.out.up HB7.out)
              have HTO := Lib.hid (fun W => (HTOPS.out q1 q2 W).2)
              have HRP := Lib.hid (replaced_any t u c p pa pcap w3.heap.size ax _ _ pg w7 HS.out HTT.out (L7.out.is HI.out) (PR5.out.up HB7.out) HPL.out HU.out HAX2.out (PA7.out.lower (Nat.zero_le _)) HTO.out)
              obtain ⟨c0, c1, c2, c3, c4, c5, c6⟩ := c7_of L7.out.box.cat
              go_wp2_with fail
              refine HRP.out.mono ?_
              rintro e w8 ⟨zz, g, pl, k, rfl, har, his, hb8⟩
              have hti : (putT (setT g.r.x g.r.y (swapK g k (twoL u.r u.id ax (szA u.r ax - 1 - spB (szA u.r ax) z) (spB (szA u.r ax) z) fresh true))) t pl).getD zT = setT t.r.x t.r.y (inT id ax (bothT u ax z fresh true) t) := by
                rw [around_is HAX2.out _ u g p t pl k HS.out HTT.out HFT.out HU.out har]; rfl
              rw [hti] at his
              have hsz : sz (setT t.r.x t.r.y (inT id ax (bothT u ax z fresh true) t)) = sz (inT id ax (bothT u ax z fresh true) t) := setT_sz _ _ _
              have hszb : sz (inT id ax (bothT u ax z fresh true) t) ≤ 60000 := by
                have h1 := inT_sz id ax (bothT u ax z fresh true) (twoL_sz _ _ _ _ _ _ _) t
                have h2 := HS.out
                omega
              generalize setT t.r.x t.r.y (inT id ax (bothT u ax z fresh true) t) = t' at his hsz HST
              generalize sz (inT id ax (bothT u ax z fresh true) t) = n' at hsz hszb HE
              have al8 : Below w8.heap.size w8 (w8.alloc (cbox zz)) := (Below.refl _ _).alloc (Nat.le_refl _) _
              have HW8 := Lib.hid hb8.size
              have L8 := Lib.hid ((L7.out.up hb8).up al8)
              have IS8 := Lib.hid ((his w8 (fun _ _ _ => rfl)).up al8)
              have BX8 := Lib.hid (Box7.new w8 zz)
              have hs8 : (w8.alloc (cbox zz)).heap.size = w8.heap.size + 1 := by simp
              have HCS := Lib.hid (size_any _ [t'] ((w8.alloc (cbox zz)).alloc (cbox zz)) (trow_one IS8.out) (by simp))
              have hw64 : wrap64 ((szL [t'] : Nat) : Int) = (n' : Int) := by
                have : szL [t'] = n' := by simp [szL, hsz]
                rw [this]
                exact wrap_small (by omega)
              rw [hw64, hs8] at HCS
              have HIS := Lib.hid his
              have HB89 : Hid (Below w8.heap.size w8 (w8.alloc (cbox zz))) := Lib.hid al8
              have NB : Hid (n' ≤ 60000) := Lib.hid hszb
              clear har his hb8 al8 hti hsz hw64 hszb hs8 c0 c1 c2 c3 c4 c5 c6 HRP
              obtain ⟨q0, q1, q2, q3, q4, q5, q6⟩ := c7_of BX8.out.cat
              go_wp2_with fail
              refine HCS.out.mono ?_
              rintro e w9 ⟨rfl, hb9⟩
              have al9 : Below (w8.alloc (cbox zz)).heap.size (w8.alloc (cbox zz)) ((w8.alloc (cbox zz)).alloc (cbox zz)) := (Below.refl _ _).alloc (Nat.le_refl _) _
              have hb9' := al9.trans (hb9.mono al9.size)
              have H9 := Lib.hid (HB89.out.trans (hb9'.mono HB89.out.size))
              have L9 := Lib.hid (L8.out.up hb9')
              have IS9 := Lib.hid (IS8.out.up hb9')
              have BX9 := Lib.hid (BX8.out.up hb9')
              have FAR9 : Hid (w.heap.size + 1 < w8.heap.size) := Lib.hid (by
                have h1 := lt_of_block L7.out.zero
                have h2 := HW8.out
                omega)
              clear hb9 hb9' al9 q0 q1 q2 q3 q4 q5 q6 HCS
              obtain ⟨⟨z0, z1, z2, z3, z4, z5, z6⟩, f0, f1, f2, f3, f4, f5, f6⟩ := zero_parts L9.out.zero
              by_cases hbig : 20000 < n'
              · have dn : decide ((20000 : Int) < (n' : Int)) = true := decide_eq_true (by omega)
                have HE8 := Lib.hid (HE.out.trans (if_pos hbig))
                clear hbig
                go_wp2
                (try simp only [Exit.inBlock, Exit.then])
                refine bodyPost_ret (results_c2 rfl _ _ (w.heap.size + 1) noC rfl ((Box7.of_zero L9.out.zero).put noC)) rfl ?_
                exact sp_err HE8.out (by decide) (below_put7 L9.out.below (by omega) noC)
              · have dn : decide ((20000 : Int) < (n' : Int)) = false := decide_eq_false (by omega)
                have HE8 := Lib.hid (HE.out.trans (if_neg hbig))
                clear hbig
                obtain ⟨q0, q1, q2, q3, q4, q5, q6⟩ := c7_of BX9.out.cat
                have hfar := FAR9.out
                go_wp2
                (try simp only [Exit.inBlock, Exit.then])
                refine bodyPost_ret (results_c2 rfl _ _ (w.heap.size + 1) zz rfl ((Box7.of_zero L9.out.zero).put zz)) rfl ?_
                refine sp_ok HE8.out HST.out ?_ (below_put7 L9.out.below (by omega) zz)
                have hw := lt_of_block L7.out.zero
                exact HIS.out _ fun m h1 h2 => (heap_put7 (by omega)).trans (H9.out.block m h2)
theorem pleaf_any (t : T) (c : C) (id ax z fresh : Int) (ahead : Bool) (w : World) (hi : Is w c t) (hz : fits z) (hfr : fits fresh) : Calls Tryz.prog 13 #[cval c, .int .i64 id, .int .u8 ax, .int .i64 z, .int .i64 fresh, .bool ahead] w (SpSays t id ax z fresh ahead .i64 w) := by
  cases ht : tileB t with
  | true => exact leaf_tiled t c id ax z fresh ahead w hi ht hz hfr
  | false => exact leaf_untiled t c id ax z fresh ahead w hi ht
end Go.Proofs.YtbbjnimadnbmnaaGreat
/- The document's example, on which the law looks. -/
namespace Go.Proofs.YtbbjnimadnbmnaaGreat
open Go.RowKit

abbrev wR : R := ⟨0, 0, 9, 5⟩
abbrev w1T : T := .node 1 wR 1 []
abbrev waT : T := .node 1 ⟨0, 0, 9, 2⟩ 1 []
abbrev wbT : T := .node 1 ⟨0, 3, 9, 2⟩ 2 []
abbrev w2T : T := .node 3 wR 0 [waT, wbT]
abbrev w3T : T := .node 1 wR 2 []
abbrev w1C : C := ⟨1, wR, 1, none, 0, 0⟩
abbrev w3C : C := ⟨1, wR, 2, none, 0, 0⟩
theorem small_fits (n : Int) (h : -1000 ≤ n ∧ n ≤ 1000) : fits n := ⟨by omega, by omega⟩
theorem w_fits : wR.fits := ⟨small_fits _ (by decide), small_fits _ (by decide), small_fits _ (by decide), small_fits _ (by decide)⟩
theorem w1_is (w : World) : Is w w1C w1T := .mk w1C [] [] (.inl ⟨_, _, rfl, rfl⟩) rfl ⟨⟨by decide, by decide⟩, w_fits, small_fits _ (by decide), by decide⟩ (fun j x t hx => by simp at hx)
theorem w3_is (w : World) : Is w w3C w3T := .mk w3C [] [] (.inl ⟨_, _, rfl, rfl⟩) rfl ⟨⟨by decide, by decide⟩, w_fits, small_fits _ (by decide), by decide⟩ (fun j x t hx => by simp at hx)
theorem w_leaf (r : R) (i : Int) : fitB (.node 1 r i []) = true := (fitB_iff _).2 (.inl rfl)
theorem w1_tile : tileB w1T = true := by
  unfold tileB
  rw [show preT w1T = [w1T] by simp [preT, preL], show mayT w1T = true by decide]
  simp [w_leaf]
theorem w2_fit : fitB w2T = true := by
  refine (fitB_iff _).2 (.inr ⟨⟨by decide, .inr ⟨by decide, ⟨fun k m hk hm => ?_, by decide⟩⟩⟩, by decide⟩)
  have hk2 : k < 2 := hk
  match k, hk2 with
  | 0, _ =>
    have : some 2 = some m := hm
    cases this
    decide
  | 1, _ =>
    have : some 2 = some m := hm
    cases this
    decide
theorem w2_tile : tileB w2T = true := by
  unfold tileB
  rw [show preT w2T = [w2T, waT, wbT] by simp [preT, preL], show mayT w2T = true by decide]
  simp [w_leaf, w2_fit]
theorem w_split : spE w1T 1 2 0 2 false = 0 ∧ spT w1T 1 2 0 2 false = w2T := by
  constructor
  · unfold spE
    rw [if_pos ⟨w1_tile, by decide, by decide, by decide, by decide⟩]
    rfl
  · rfl
theorem w_pair : Pair w2T 0 waT wbT wbT waT := ⟨rfl, rfl, rfl, rfl, .inr ⟨rfl, rfl⟩⟩
theorem w_kill : klE 1 w2T = 0 ∧ klT 1 w2T = w3T := by
  have hf : findT 1 w2T = some [(0 : Int)] := by decide
  have hw := (kill_way (id := 1) [] w2T w2T 0 (by decide) w2_tile hf rfl).1
  refine ⟨kl_more w2_tile hf, ?_⟩
  have h1 : goneT w2T 0 = klT 1 w2T := by
    unfold klT
    exact Option.some.inj hw
  rw [← h1]
  unfold goneT
  rw [if_pos (show w2T.kids.length = 2 from rfl), (grows_of (by decide) w2_tile w_pair).grown, adjT_eq]
  rfl

theorem callP (w : World) : Calls Tryz.prog 13 #[cval w1C, .int .i64 1, .int .u8 2, .int .i64 0, .int .i64 2, .bool false] w fun e w' => ∃ d, e = .returned (.tuple #[cval d, .int .i64 0]) ∧ Is w' d w2T ∧ Below w.heap.size w w' := by
  refine (pleaf_any w1T w1C 1 2 0 2 false w (w1_is w) (small_fits _ (by decide)) (small_fits _ (by decide))).mono ?_
  rintro e w' ⟨d, he, hi, hb⟩
  rw [w_split.1] at he hi
  rw [if_pos rfl, w_split.2] at hi
  exact ⟨d, he, hi, hb⟩
theorem callK (d : C) (w : World) (hi : Is w d w2T) : Calls Tryz.prog 7 #[cval d, .int .i64 1] w fun e w' => ∃ d', e = .returned (.tuple #[cval d', .int .i64 0]) ∧ Is w' d' w3T ∧ Below w.heap.size w w' := by
  refine (pkill_any 1 w2T d w (by decide) hi).mono ?_
  rintro e w' ⟨d', he, hst, hb⟩
  have h := hst.is trivial
  rw [w_kill.1] at he h
  rw [if_pos rfl, w_kill.2] at h
  exact ⟨d', he, h, hb⟩

set_option maxRecDepth 100000 in
theorem awake13_any (w : World) : Calls Tryz.prog 6 #[] w fun e w' => e = .returned (.bool true) ∧ Below w.heap.size w w' := by
  have HS := Lib.hid (fun (d f : C) W (h : Is W d w3T) (h' : Is W f w3T) => rsame_any (sz w3T) w3T w3T d f W (Nat.le_refl _) h h')
  rw [(sameT_iff w3T w3T).2 rfl] at HS
  go_enter Tryz.func6, Tryz.ntmps6
  go_wp2_with fail
  refine (callP w).mono ?_
  rintro e w2 ⟨d, rfl, hd, hb2⟩
  have A2 : Below w2.heap.size w2 (w2.alloc (cbox d)) := (Below.refl _ _).alloc (Nat.le_refl _) _
  have B2 := Lib.hid (hb2.trans (A2.mono hb2.size))
  have D2 := Lib.hid (hd.up A2)
  have X2 := Lib.hid (Box7.new w2 d)
  have HK := Lib.hid (callK d _ D2.out)
  clear hb2 hd A2
  obtain ⟨c0, c1, c2, c3, c4, c5, c6⟩ := c7_of X2.out.cat
  go_wp2_with fail
  refine HK.out.mono ?_
  rintro e w3 ⟨f, rfl, hf, hb3⟩
  have A3 : Below w3.heap.size w3 (w3.alloc (cbox f)) := (Below.refl _ _).alloc (Nat.le_refl _) _
  have B3 := Lib.hid (bl_up (bl_up B2.out hb3) A3)
  have F3 := Lib.hid (hf.up A3)
  have X3 := Lib.hid (Box7.new w3 f)
  have HS3 := Lib.hid (HS.out f w3C _ F3.out (w3_is _))
  clear hb3 hf A3 c0 c1 c2 c3 c4 c5 c6 HK
  obtain ⟨c0, c1, c2, c3, c4, c5, c6⟩ := c7_of X3.out.cat
  go_wp2_with fail
  refine HS3.out.mono ?_
  rintro e w4 ⟨rfl, hb4⟩
  have B4 := Lib.hid (bl_up B3.out hb4)
  clear hb4
  go_wp2
  go_ret
  exact ⟨rfl, B4.out⟩
end Go.Proofs.YtbbjnimadnbmnaaGreat
