/- Texts of this seat, 3 in one file. -/
import Derived.Test.YtcdiogifgemjbaaGreatG39
import Derived.Test.YtcdiogifgemjbaaGreatG31
import Derived.Test.YtcdiogifgemjbaaGreatG30
import Derived.Test.YtcdiogifgemjbaaGreatG33
/- resized, along the other axis. -/
namespace Go.Proofs.YtcdiogifgemjbaaGreat
open Go.RowKit Sh

set_option maxHeartbeats 4000000 in
set_option maxRecDepth 100000 in
theorem resized2_any (N : Nat) : ∀ (t : T) (x : G) (b : Int) (w : World), sz t ≤ N → sz t ≤ 990 → tileB t = true → canB 2 b t → IsG w 2 x t → Calls Tryz.prog 55 #[gval x, .int .u8 2, .int .i64 b] w (GrSays (fun _ => True) (adjT 2 b t) w) := by
  induction N with
  | zero => intro t x b w h; have := sz_pos t; omega
  | succ N ih =>
    intro t x b w hs hm ht hb hi
    have hax : (2 : Int) = 1 ∨ (2 : Int) = 2 := by decide
    have hrf := adjR_in hax (by omega) ht hb
    have hfn : t.kids.length ≤ 990 := by have := sz_node t; have := szL_len t.kids; omega
    have HE := Lib.hid (adjT_eq 2 b t)
    have HCAN : Hid (∀ (j : Nat) (u : T), t.kids[j]? = some u → (alB t.k 2 = true → ∃ l, ShIs b (t.kids.map (gvT 2)) l) → canB 2 (shF t.k 2 b (t.kids.map (gvT 2)) j) u) := Lib.hid fun j u hj hsh => can_kid hax (by omega) ht hb hj hsh
    have HTK : Hid (∀ (j : Nat) (u : T), t.kids[j]? = some u → tileB u = true) := Lib.hid fun j u hj => tile_kid (by have := sz_kid hj; omega) ht hj
    obtain ⟨e1, e2, e3, hfine, ⟨h1, h2, h3⟩, hg, gs, hrow, hlen, hn, heach⟩ := hi.split
    obtain ⟨⟨ck, cr, cid, ca, cn, ccap⟩, xg, xa, xn, xcap⟩ := x
    simp only at e1 e2 e3 h1 h2 h3 hn
    subst h1 h2 h3 hn
    rw [e2] at hrf
    obtain ⟨hrf, hw1, hw2, hh1, hh2⟩ := hrf
    have hwrap : IntKind.i64.wrap (cr.h + b) = cr.h + b := wrap_id (by omega)
    have HRF : Hid ((⟨cr.x, cr.y, cr.w, cr.h + b⟩ : R).fits) := Lib.hid hrf
    have HFINE := Lib.hid hfine
    have hb0 : Below w.heap.size w ((w.alloc (gbox ⟨⟨ck, ⟨cr.x, cr.y, cr.w, cr.h + b⟩, cid, none, 0, 0⟩, xg, xa, t.kids.length, xcap⟩)).alloc zeroBox) := ((Below.refl _ _).alloc (Nat.le_refl _) _).alloc (by simp) _
    have HB0 := Lib.hid hb0
    have HSH := Lib.hid (gshares_any 2 b hax t ⟨⟨ck, ⟨cr.x, cr.y, cr.w, cr.h + b⟩, cid, none, 0, 0⟩, xg, xa, t.kids.length, xcap⟩ ((w.alloc (gbox ⟨⟨ck, ⟨cr.x, cr.y, cr.w, cr.h + b⟩, cid, none, 0, 0⟩, xg, xa, t.kids.length, xcap⟩)).alloc zeroBox) hm ht hb ⟨e1, ⟨rfl, rfl, rfl⟩, gs, hrow.up hb0, hlen, rfl, fun j y u hy hu => (heach j y u hy hu).split.2.2.2.2.2.1⟩)
    have BX : Hid (Box9 ((w.alloc (gbox ⟨⟨ck, ⟨cr.x, cr.y, cr.w, cr.h + b⟩, cid, none, 0, 0⟩, xg, xa, t.kids.length, xcap⟩)).alloc zeroBox) w.heap.size ⟨⟨ck, ⟨cr.x, cr.y, cr.w, cr.h + b⟩, cid, none, 0, 0⟩, xg, xa, t.kids.length, xcap⟩) := Lib.hid ((Box9.new w ⟨⟨ck, ⟨cr.x, cr.y, cr.w, cr.h + b⟩, cid, none, 0, 0⟩, xg, xa, t.kids.length, xcap⟩).up ((Below.refl _ _).alloc (Nat.le_refl _) _))
    have ZX : Hid (Zero7 ((w.alloc (gbox ⟨⟨ck, ⟨cr.x, cr.y, cr.w, cr.h + b⟩, cid, none, 0, 0⟩, xg, xa, t.kids.length, xcap⟩)).alloc zeroBox) (w.heap.size + 1)) := Lib.hid (by
      have := zero_new (w.alloc (gbox ⟨⟨ck, ⟨cr.x, cr.y, cr.w, cr.h + b⟩, cid, none, 0, 0⟩, xg, xa, t.kids.length, xcap⟩))
      simpa using this)
    have SW : Hid (((w.alloc (gbox ⟨⟨ck, ⟨cr.x, cr.y, cr.w, cr.h + b⟩, cid, none, 0, 0⟩, xg, xa, t.kids.length, xcap⟩)).alloc zeroBox).heap.size = w.heap.size + 2) := Lib.hid (by simp)
    have HROW := Lib.hid hrow
    have HLEN := Lib.hid hlen
    have HEACH := Lib.hid heach
    have HS := Lib.hid hs
    have HM := Lib.hid hm
    have HIH := Lib.hid ih
    have HK1 := Lib.hid e1
    have HK2 := Lib.hid e2
    have HK3 := Lib.hid e3
    clear hs hm ht hb hi ih hrow hlen heach hg hfine hb0 hax hrf e1 e2 e3
    go_enter Tryz.func55, Tryz.ntmps55
    go_wp2_with fail
    refine HSH.out.mono ?_
    rintro e w3 ⟨hex, v3, l3, rfl, hrow3, hlen3, hsv, hb3⟩
    have HEX := Lib.hid hex
    generalize hF : shF t.k 2 b (t.kids.map (gvT 2)) = F at hsv HCAN
    have HEF : Hid (adjT 2 b t = .node ck ⟨cr.x, cr.y, cr.w, cr.h + b⟩ cid (adjL 2 F t.kids)) := Lib.hid (by rw [HE.out, hF, HK1.out, HK2.out, HK3.out]; rfl)
    have HSV := Lib.hid hsv
    have HR3 := Lib.hid hrow3
    have HL3 := Lib.hid hlen3
    have ST3 : Hid (RSt w w3 ⟨⟨ck, ⟨cr.x, cr.y, cr.w, cr.h + b⟩, cid, none, 0, 0⟩, xg, xa, t.kids.length, xcap⟩ w3) := Lib.hid ⟨HB0.out.trans (hb3.mono HB0.out.size), BX.out.up hb3, zero_up ZX.out hb3, fun a v ha _ => ha, by have := hb3.size; have := SW.out; omega, Nat.le_refl _⟩
    obtain ⟨a3, cap3, rfl⟩ := row_shape hrow3
    clear hex hsv hrow3 hlen3 hb3 hF HSH
    obtain ⟨⟨s0, s1, s2, s3, s4, s5, s6, s7, s8⟩, -⟩ := g9_parts ST3.out.box
    have h63 := Lib.hid s6
    go_wp2
    go_loopg [37] (t.kids.length + 1) (fun g i wr => ∃ (k : Nat) (cs : List C) (a : Option Addr) (cap : Nat), g + k = t.kids.length + 1 ∧ k ≤ t.kids.length ∧ i = .int .i64 k ∧ RSt w w3 ⟨⟨ck, ⟨cr.x, cr.y, cr.w, cr.h + b⟩, cid, a, cs.length, cap⟩, xg, xa, t.kids.length, xcap⟩ wr ∧ Grove (fun _ => True) wr w3.heap.size (.slice a cs.length cap) cs (adjL 2 F (t.kids.take k)))
    case atStart => exact ⟨0, [], none, 0, by omega, by omega, rfl, ST3.out, by simpa [adjL] using Grove.nil (fun _ => True) w3 w3.heap.size⟩
    case round =>
      clear s0 s1 s2 s3 s4 s5 s6 s7 s8
      obtain ⟨k, cs, a, cap, hg, hk, rfl, hst, hgr⟩ := hrel
      have HG := Lib.hid hg
      have HW := Lib.hid hst
      have HF := Lib.hid hgr
      clear hg hst hgr
      by_cases hlt : k < t.kids.length
      · have hlti : (k : Int) < (t.kids.length : Int) := by omega
        have hltl : k < l3.length := by rw [HL3.out]; exact hlt
        obtain ⟨b3, o3, rfl, hf⟩ := HROW.out.place (by rw [HLEN.out]; omega)
        obtain ⟨u, hu⟩ : ∃ u, t.kids[k]? = some u := ⟨_, List.getElem?_eq_getElem hlt⟩
        obtain ⟨y, hy⟩ : ∃ y, gs[k]? = some y := ⟨_, List.getElem?_eq_getElem (by rw [HLEN.out]; exact hlt)⟩
        obtain ⟨aa3, cap3', he3, h03, hc3⟩ := HR3.out
        rw [ints_length] at he3
        have haa : a3 = aa3 := by cases he3; rfl
        subst haa
        obtain ⟨b4, o4, rfl, hcell4⟩ := row_at h03 hc3 (by rw [ints_length]; omega)
        have hc4 := hcell4 k (.int .i64 (F k)) (by unfold ints; rw [List.getElem?_map, HSV.out k hlt]; rfl)
        have hne4 : (⟨b4, o4 + k, none⟩ : Addr) ≠ ⟨w.heap.size, 6, none⟩ := fun e => by rw [e, h63.out] at hc4; cases hc4
        have HC4 : Hid (∀ W x', RSt w w3 x' W → W.cell? ⟨b4, o4 + k, none⟩ = some (.int .i64 (F k))) := Lib.hid fun W x' h => h.keep _ _ hc4 hne4
        have HN4 := Lib.hid hne4
        have hba : Below wr.heap.size wr (wr.alloc (gbox y)).drew := ((Below.refl _ _).alloc (Nat.le_refl _) _).drew
        have HBA := Lib.hid hba
        have ST1 := Lib.hid (HW.out.up hba)
        have KB1 : Hid (Box9 (wr.alloc (gbox y)).drew wr.heap.size y) := Lib.hid (Box9.new wr y)
        have X0 := Lib.hid (s10_of KB1.out (HC4.out _ _ ST1.out))
        have HK := Lib.hid (HIH.out u y (F k) (wr.alloc (gbox y)).drew (by have := HS.out; have := sz_kid hu; omega) (by have := HM.out; have := sz_kid hu; omega) (HTK.out k u hu) (HCAN.out k u hu HEX.out) ((HEACH.out k y u hy hu).up ST1.out.below))
        have HST := Lib.hid (adjL_step (ax := 2) (s := F) hu)
        have HLC := Lib.hid (show cs.length + 1 ≤ 1954687338211 by have := HF.out.len; rw [adjL_len, List.length_take] at this; omega)
        have HOB : Hid (∀ g, (Value.slice a cs.length cap).ownBlock = some g → g < wr.heap.size) := Lib.hid fun g hg => (own_block HF.out.row hg).2
        obtain ⟨c0, c1, c2, c3, c4, c5, c6, c7, c8⟩ := g9_up (hf k y hy) HW.out.below
        have q6 := (g9_parts ST1.out.box).1.2.2.2.2.2.2.1
        clear hf hu hy hcell4 h03 hc3 he3 hc4 hne4 hba
        go_wp2_with fail
        obtain ⟨⟨k0, k1, k2, k3, k4, k5, k6, k7, k8⟩, -⟩ := g9_parts KB1.out
        have r4 := HC4.out _ _ ST1.out
        go_region_law (
          first
          | (refine step_append_cell rfl _ _ rfl w3.heap.size (.slice a cs.length cap) _ cs d rfl OW5.out rfl (OwnC.one w4 0 (Nat.zero_le _) d).row HLC.out wr (((HBA.out.trans (HB4.out.mono HBA.out.size)).trans (HA5.out.mono (Nat.le_trans HBA.out.size HB4.out.size))).mono HW.out.size) HW.out.size ?_
             intro g6 cap6 w6 hown6 hb6 hgr6 hpl6
             have ST6 := Lib.hid (HW.out.upB hb6)
             have HF6 := Lib.hid (HF.out.one (HBA.out.trans (HB4.out.mono HBA.out.size)) HA5.out HW.out.size (G4.out.wide HBA.out.size (Nat.le_refl _)) (by rw [List.length_append]; exact hown6) hgr6 hpl6)
             have e6 := ST6.out.box.free 6
             have p6 := (g9_parts ST6.out.box).1.2.2.2.2.2.2.1
             clear hown6 hb6 hgr6 hpl6)
          | (go_simp; go_at_call 55; (refine HK.out.mono ?_); rintro e w4 ⟨d, rfl, hst4, hb4⟩; have ST4 := Lib.hid (ST1.out.up hb4); have G4 := Lib.hid hst4; have HB4 := Lib.hid hb4; have q64 := (g9_parts ST4.out.box).1.2.2.2.2.2.2.1; have HA5 : Hid (Below w4.heap.size w4 (w4.alloc (cbox d))) := Lib.hid ((Below.refl _ _).alloc (Nat.le_refl _) _); have q65 := (g9_parts (ST4.out.up HA5.out).box).1.2.2.2.2.2.2.1; have OW5 := Lib.hid (HF.out.row.up ((HBA.out.trans (hb4.mono HBA.out.size)).trans (HA5.out.mono (Nat.le_trans HBA.out.size hb4.size)))); clear hst4 hb4))
        all_goals
          (try simp only [Exit.inBlock, Exit.then])
          go_wp2
          go_roundg (gk - 1)
          case measure => have := HG.out; omega
          case rel =>
            refine ⟨k + 1, cs ++ [d], some ⟨g6, 0, none⟩, cap6, by have := HG.out; omega, by omega, by go_num, ?_, ?_⟩
            · simpa using ST6.out.row (some ⟨g6, 0, none⟩) (cs.length + 1) cap6
            · rw [HST.out]
              have h7 := HF6.out.kept (w2 := w6.setCell ⟨w.heap.size, 6, none⟩ (.slice (some ⟨g6, 0, none⟩) (cs.length + 1) cap6)) (by simp [World.setCell]) fun j hj _ => Below.heap_setCell w6 ⟨w.heap.size, 6, none⟩ _ j (by show j ≠ w.heap.size; have := HW.out.far; omega)
              simpa using h7
      · obtain rfl : k = t.kids.length := by omega
        have hkl : ((t.kids.length : Int) < (t.kids.length : Int)) = False := by simp
        have HFA : Hid (Grove (fun _ => True) wr w3.heap.size (.slice a cs.length cap) cs (adjL 2 F t.kids)) := Lib.hid (by have h := HF.out; rw [List.take_length] at h; exact h)
        obtain ⟨⟨s0, s1, s2, s3, s4, s5, s6, s7, s8⟩, -⟩ := g9_parts HW.out.box
        obtain ⟨⟨z0, z1, z2, z3, z4, z5, z6⟩, f0, f1, f2, f3, f4, f5, f6⟩ := zero_parts HW.out.zero
        go_wp2
        (try simp only [Exit.inBlock, Exit.then])
        refine bodyPost_ret (results_cell1 rfl _ _ (w.heap.size + 1) ⟨ck, ⟨cr.x, cr.y, cr.w, cr.h + b⟩, cid, a, cs.length, cap⟩ rfl ((Box7.of_zero HW.out.zero).put ⟨ck, ⟨cr.x, cr.y, cr.w, cr.h + b⟩, cid, a, cs.length, cap⟩)) rfl ?_
        exact rs_end HEF.out HW.out HFA.out HFINE.out.1 HRF.out HFINE.out.2.2.1 (by rw [adjL_len]; omega)
end Go.Proofs.YtcdiogifgemjbaaGreat
/- adjust.Adjust, the program's. -/
namespace Go.Proofs.YtcdiogifgemjbaaGreat
open Go.RowKit Sh

set_option maxRecDepth 100000 in
theorem aroom_any (r : R) (ax : Int) (hax : ax = 1 ∨ ax = 2) (w : World) (h1 : 0 ≤ r.x ∧ 0 ≤ r.y ∧ 1 ≤ r.w ∧ 1 ≤ r.h ∧ r.x + r.w ≤ 10000 ∧ r.y + r.h ≤ 10000) : Calls Tryz.prog 53 #[val r, .int .u8 ax] w fun e w' => e = .returned (.int .i64 (10000 - (atA r ax + szA r ax))) ∧ Below w.heap.size w w' := by
  have B1 : Hid (Below w.heap.size w (w.alloc (box r))) := Lib.hid ((Below.refl _ _).alloc (Nat.le_refl _) _)
  have w1 : IntKind.i64.wrap (r.x + r.w) = r.x + r.w := wrap_id (by omega)
  have w2 : IntKind.i64.wrap (r.y + r.h) = r.y + r.h := wrap_id (by omega)
  have HS := Lib.hid (lsize_any ⟨0, 0, r.x + r.w, r.y + r.h⟩ ax (w.alloc (box r)))
  have hv : szA ⟨0, 0, r.x + r.w, r.y + r.h⟩ ax = atA r ax + szA r ax := by
    rcases hax with rfl | rfl <;> rfl
  rw [hv] at HS
  obtain ⟨m, hm⟩ : ∃ m, atA r ax + szA r ax = m := ⟨_, rfl⟩
  have hmb : 0 ≤ m ∧ m ≤ 10000 := by
    rw [← hm]
    rcases hax with rfl | rfl
    · show 0 ≤ r.x + r.w ∧ r.x + r.w ≤ 10000; omega
    · show 0 ≤ r.y + r.h ∧ r.y + r.h ≤ 10000; omega
  rw [hm] at HS ⊢
  have w3 : IntKind.i64.wrap (10000 - m) = 10000 - m := wrap_id (by omega)
  clear hv hm hax
  go_enter Tryz.func53, Tryz.ntmps53
  go_wp2_with fail
  refine HS.out.mono ?_
  rintro e w4 ⟨rfl, hb4⟩
  have B4 := Lib.hid (B1.out.trans (hb4.mono B1.out.size))
  clear hb4
  go_wp2
  go_ret
  exact ⟨by first | rfl | (refine ret_int ?_; omega), B4.out⟩

theorem szA_none {r : R} {ax : Int} (h : axB ax = false) : szA r ax = 0 := by
  have h1 : ¬ (ax = 1 ∨ ax = 2) := fun e => by rw [(axB_iff ax).2 e] at h; cases h
  unfold szA
  rw [if_neg (by omega), if_neg (by omega)]

set_option maxHeartbeats 4000000 in
set_option maxRecDepth 100000 in
theorem adjust_arg (t : T) (c : C) (ax b : Int) (w : World) (hm : sz t ≤ 990) (hi : Is w c t) (hn : ¬ (tileB t = true ∧ axB ax = true)) : Calls Tryz.prog 35 #[cval c, .int .u8 ax, .int .i64 b] w (AjSays ax b t .i64 w) := by
  have L0 := Lib.hid (ASt.start w c)
  have HE := Lib.hid (aj_arg (b := b) hn)
  have HT := Lib.hid (tilesOne_any t c (cellW w c) (L0.out.is hi) (fun _ => by omega) (w.heap.size + 2) (by simp))
  have hcase : tileB t = false ∨ (tileB t = true ∧ axB ax = false) := by
    cases h1 : tileB t with
    | false => exact .inl rfl
    | true => exact .inr ⟨rfl, by cases h2 : axB ax with | false => rfl | true => exact absurd ⟨h1, h2⟩ hn⟩
  have HSZ := Lib.hid (fun W => lsize_any c.r ax W)
  clear hi hm hn
  obtain ⟨c0, c1, c2, c3, c4, c5, c6⟩ := c7_of L0.out.box.cat
  rcases hcase with h1 | ⟨h1, h2⟩
  · rw [h1] at HT
    go_enter Tryz.func35, Tryz.ntmps35
    go_wp2_with fail
    refine HT.out.mono ?_
    rintro e w1 ⟨rfl, hb1⟩
    have L1 := Lib.hid (L0.out.up hb1)
    clear hb1
    obtain ⟨⟨z0, z1, z2, z3, z4, z5, z6⟩, f0, f1, f2, f3, f4, f5, f6⟩ := zero_parts L1.out.zero
    go_wp2
    (try simp only [Exit.inBlock, Exit.then])
    refine bodyPost_ret (results_c2 rfl _ _ (w.heap.size + 1) noC rfl ((Box7.of_zero L1.out.zero).put noC)) rfl ?_
    exact aj_err HE.out (by decide) (below_put7 L1.out.below (by omega) noC)
  · rw [h1] at HT
    have hs0 := szA_none (r := c.r) h2
    rw [hs0] at HSZ
    clear hs0 h2
    go_enter Tryz.func35, Tryz.ntmps35
    go_wp2_with fail
    refine HT.out.mono ?_
    rintro e w1 ⟨rfl, hb1⟩
    have L1 := Lib.hid (L0.out.up hb1)
    clear hb1 c0 c1 c2 c3 c4 c5 c6
    obtain ⟨c0, c1, c2, c3, c4, c5, c6⟩ := c7_of L1.out.box.cat
    go_wp2_with fail
    refine (HSZ.out w1).mono ?_
    rintro e w2 ⟨rfl, hb2⟩
    have L2 := Lib.hid (L1.out.up hb2)
    clear hb2 c0 c1 c2 c3 c4 c5 c6
    obtain ⟨⟨z0, z1, z2, z3, z4, z5, z6⟩, f0, f1, f2, f3, f4, f5, f6⟩ := zero_parts L2.out.zero
    go_wp2
    (try simp only [Exit.inBlock, Exit.then])
    refine bodyPost_ret (results_c2 rfl _ _ (w.heap.size + 1) noC rfl ((Box7.of_zero L2.out.zero).put noC)) rfl ?_
    exact aj_err HE.out (by decide) (below_put7 L2.out.below (by omega) noC)

set_option maxHeartbeats 4000000 in
set_option maxRecDepth 100000 in
theorem adjust1_any (t : T) (c : C) (b : Int) (w : World) (hm : sz t ≤ 990) (hi : Is w c t) (hb : fits b) (ht : tileB t = true) : Calls Tryz.prog 35 #[cval c, .int .u8 1, .int .i64 b] w (AjSays 1 b t .i64 w) := by
  have L0 := Lib.hid (ASt.start w c)
  have HT := Lib.hid (tilesOne_any t c (cellW w c) (L0.out.is hi) (fun _ => by omega) (w.heap.size + 2) (by simp))
  rw [ht] at HT
  have HE := Lib.hid (aj_do (ax := 1) (b := b) ⟨ht, rfl⟩)
  have hw := may_rect (well_rect (tile_top (by omega) ht).1)
  have hgv := gv_bounds (ax := 1) (by decide) (show sz t ≤ 20000 by omega) ht
  have htr := hi.split.2.1
  have HSZ := Lib.hid (fun W => lsize_any c.r 1 W)
  have HGI := Lib.hid (fun W (h : Is W c t) => giv_any t c 1 W h (fun _ => by omega))
  rw [gi_yes ht rfl] at HGI
  rw [htr] at hw
  have HRM := Lib.hid (fun W => aroom_any c.r 1 (by decide) W hw)
  have HST : Hid (ajT 1 b t = setT c.r.x c.r.y (adjT 1 b t)) := Lib.hid (by unfold ajT; rw [htr])
  have HCF := Lib.hid hi.fine.2.1
  have HEQ : Hid ((10000 < b ∨ b < -10000 ∨ 10000 < atA t.r 1 + szA t.r 1 + b ∨ szA t.r 1 + b < lsT 1 t) ↔ (b < -gvT 1 t ∨ 10000 - (c.r.x + c.r.w) < b)) := Lib.hid (by
    have h1 := szA_pos (well_rect (tile_top (show sz t ≤ 20000 by omega) ht).1) (show (1 : Int) = 1 ∨ (1 : Int) = 2 by decide)
    have h2 : atA t.r 1 = c.r.x := by rw [htr]; rfl
    have h3 : szA t.r 1 = c.r.w := by rw [htr]; rfl
    have h4 := ls_pos 1 t
    unfold gvT at hgv ⊢
    omega)
  have HCAN := Lib.hid (aj_can (ax := 1) (b := b) (t := t))
  have HI := Lib.hid hi
  have HM := Lib.hid hm
  have HTT := Lib.hid ht
  obtain ⟨hb1, hb2⟩ := hb
  have hat : atA c.r 1 + szA c.r 1 = c.r.x + c.r.w := rfl
  have hsz : szA c.r 1 = c.r.w := rfl
  rw [hat] at HRM
  rw [hsz] at HSZ
  have d0 : (c.r.w == 0) = false := by rw [beq_eq_false_iff_ne]; omega
  have hng : IntKind.i64.wrap (-gvT 1 t) = -gvT 1 t := wrap_id (by omega)
  generalize hm0 : gvT 1 t = m at HGI HEQ hng hgv
  clear hi hm ht htr hat hsz hm0
  obtain ⟨c0, c1, c2, c3, c4, c5, c6⟩ := c7_of L0.out.box.cat
  go_enter Tryz.func35, Tryz.ntmps35
  go_wp2_with fail
  refine HT.out.mono ?_
  rintro e w1 ⟨rfl, hb1'⟩
  have L1 := Lib.hid (L0.out.up hb1')
  clear hb1' c0 c1 c2 c3 c4 c5 c6 HT
  obtain ⟨c0, c1, c2, c3, c4, c5, c6⟩ := c7_of L1.out.box.cat
  go_wp2_with fail
  refine (HSZ.out w1).mono ?_
  rintro e w2 ⟨rfl, hb2'⟩
  have L2 := Lib.hid (L1.out.up hb2')
  clear hb2' c0 c1 c2 c3 c4 c5 c6 L1
  obtain ⟨c0, c1, c2, c3, c4, c5, c6⟩ := c7_of L2.out.box.cat
  go_wp2_with fail
  refine (HGI.out w2 (L2.out.is HI.out)).mono ?_
  rintro e w3 ⟨rfl, hb3'⟩
  have L3 := Lib.hid (L2.out.up hb3')
  clear hb3' c0 c1 c2 c3 c4 c5 c6 L2
  by_cases g1 : b < -m
  · have d1 : decide (b < -m) = true := decide_eq_true g1
    have HE9 := Lib.hid (HE.out.trans (if_pos (HEQ.out.2 (.inl g1))))
    clear g1
    obtain ⟨⟨z0, z1, z2, z3, z4, z5, z6⟩, f0, f1, f2, f3, f4, f5, f6⟩ := zero_parts L3.out.zero
    go_wp2
    (try simp only [Exit.inBlock, Exit.then])
    refine bodyPost_ret (results_c2 rfl _ _ (w.heap.size + 1) noC rfl ((Box7.of_zero L3.out.zero).put noC)) rfl ?_
    exact aj_err HE9.out (by decide) (below_put7 L3.out.below (by omega) noC)
  have d1 : decide (b < -m) = false := decide_eq_false g1
  obtain ⟨c0, c1, c2, c3, c4, c5, c6⟩ := c7_of L3.out.box.cat
  go_wp2_with fail
  refine (HRM.out w3).mono ?_
  rintro e w4 ⟨rfl, hb4'⟩
  have L4 := Lib.hid (L3.out.up hb4')
  clear hb4' c0 c1 c2 c3 c4 c5 c6 L3
  by_cases g2 : 10000 - (c.r.x + c.r.w) < b
  · have d2 : decide (10000 - (c.r.x + c.r.w) < b) = true := decide_eq_true g2
    have HE9 := Lib.hid (HE.out.trans (if_pos (HEQ.out.2 (.inr g2))))
    clear g1 g2
    obtain ⟨⟨z0, z1, z2, z3, z4, z5, z6⟩, f0, f1, f2, f3, f4, f5, f6⟩ := zero_parts L4.out.zero
    go_wp2
    (try simp only [Exit.inBlock, Exit.then])
    refine bodyPost_ret (results_c2 rfl _ _ (w.heap.size + 1) noC rfl ((Box7.of_zero L4.out.zero).put noC)) rfl ?_
    exact aj_err HE9.out (by decide) (below_put7 L4.out.below (by omega) noC)
  · have d2 : decide (10000 - (c.r.x + c.r.w) < b) = false := decide_eq_false g2
    have hno : ¬ (10000 < b ∨ b < -10000 ∨ 10000 < atA t.r 1 + szA t.r 1 + b ∨ szA t.r 1 + b < lsT 1 t) := fun h => by rcases HEQ.out.1 h with h | h <;> omega
    have HE9 := Lib.hid (HE.out.trans (if_neg hno))
    have hcan := HCAN.out hno
    have D4 : Hid (ASt w c w4.drew) := Lib.hid (L4.out.up (Below.refl _ _).drew)
    have X4 := Lib.hid (c7_of D4.out.box.cat)
    have HWE := Lib.hid (weigh_any 1 (by decide) (sz t) t c w4.drew (Nat.le_refl _) HM.out HTT.out (D4.out.is HI.out))
    have HRE := Lib.hid (fun (x : G) (W : World) (h : IsG W 1 x t) => resized1_any (sz t) t x b W (Nat.le_refl _) HM.out HTT.out hcan h)
    have HSET := Lib.hid (fun (d : C) (W : World) (h : Is W d (adjT 1 b t)) => set_any (sz (adjT 1 b t)) (adjT 1 b t) d c.r.x c.r.y W (Nat.le_refl _) HCF.out.1 HCF.out.2.1 h)
    clear hno g1 g2 hcan HE HCAN
    generalize adjT 1 b t = t' at HRE HSET HST
    go_wp2_with fail
    go_region_held3 (fun W => W.cell? ⟨w.heap.size, 0, none⟩ = some (.int .u8 c.k) ∧ W.cell? ⟨w.heap.size, 1, none⟩ = some (.int .i64 c.r.x) ∧ W.cell? ⟨w.heap.size, 2, none⟩ = some (.int .i64 c.r.y) ∧ W.cell? ⟨w.heap.size, 3, none⟩ = some (.int .i64 c.r.w) ∧ W.cell? ⟨w.heap.size, 4, none⟩ = some (.int .i64 c.r.h) ∧ W.cell? ⟨w.heap.size, 5, none⟩ = some (.int .i64 c.id) ∧ W.cell? ⟨w.heap.size, 6, none⟩ = some (.slice c.a c.n c.cap)) (first | with_reducible exact X4.out | with_reducible exact X5.out | with_reducible exact X6.out | with_reducible exact X7.out | with_reducible exact X8.out)
      (first
        | (go_at_call 54; (with_reducible refine HWE.out.mono ?_); rintro e w5 ⟨x5, rfl, hst5, hb5⟩; have L5 := Lib.hid (D4.out.up hb5); have X5 := Lib.hid (c7_of L5.out.box.cat); have I5 := Lib.hid hst5.is; clear hst5 hb5)
        | (go_at_call 55; (with_reducible refine (HRE.out x5 w5 I5.out).mono ?_); rintro e w6 ⟨d6, rfl, hst6, hb6⟩; have L6 := Lib.hid (L5.out.up hb6); have X6 := Lib.hid (c7_of L6.out.box.cat); have I6 := Lib.hid (hst6.is trivial); clear hst6 hb6)
        | (go_at_call 20; (with_reducible refine (HSET.out d6 w6 I6.out).mono ?_); rintro e w7 ⟨d7, S7, rfl, hown7, -, hb7⟩; have L7 := Lib.hid (L6.out.up hb7); have X7 := Lib.hid (c7_of L7.out.box.cat); have O7 := Lib.hid hown7; have X8 := Lib.hid (c7_put7 (k := w.heap.size + 1) (x := d7) X7.out (by omega)); obtain ⟨⟨z0, z1, z2, z3, z4, z5, z6⟩, f0, f1, f2, f3, f4, f5, f6⟩ := zero_parts L7.out.zero; clear hown7 hb7))
    go_wp2
    (try simp only [Exit.inBlock, Exit.then])
    refine bodyPost_ret (results_c2 rfl _ _ (w.heap.size + 1) d7 rfl ((Box7.of_zero L7.out.zero).put d7)) rfl ?_
    exact aj_ok HE9.out HST.out (stands_put L7.out O7.out rfl (lt_of_block L6.out.zero)) (below_put7 L7.out.below (by omega) d7)

set_option maxHeartbeats 4000000 in
set_option maxRecDepth 100000 in
theorem adjust2_any (t : T) (c : C) (b : Int) (w : World) (hm : sz t ≤ 990) (hi : Is w c t) (hb : fits b) (ht : tileB t = true) : Calls Tryz.prog 35 #[cval c, .int .u8 2, .int .i64 b] w (AjSays 2 b t .i64 w) := by
  have L0 := Lib.hid (ASt.start w c)
  have HT := Lib.hid (tilesOne_any t c (cellW w c) (L0.out.is hi) (fun _ => by omega) (w.heap.size + 2) (by simp))
  rw [ht] at HT
  have HE := Lib.hid (aj_do (ax := 2) (b := b) ⟨ht, rfl⟩)
  have hw := may_rect (well_rect (tile_top (by omega) ht).1)
  have hgv := gv_bounds (ax := 2) (by decide) (show sz t ≤ 20000 by omega) ht
  have htr := hi.split.2.1
  have HSZ := Lib.hid (fun W => lsize_any c.r 2 W)
  have HGI := Lib.hid (fun W (h : Is W c t) => giv_any t c 2 W h (fun _ => by omega))
  rw [gi_yes ht rfl] at HGI
  rw [htr] at hw
  have HRM := Lib.hid (fun W => aroom_any c.r 2 (by decide) W hw)
  have HST : Hid (ajT 2 b t = setT c.r.x c.r.y (adjT 2 b t)) := Lib.hid (by unfold ajT; rw [htr])
  have HCF := Lib.hid hi.fine.2.1
  have HEQ : Hid ((10000 < b ∨ b < -10000 ∨ 10000 < atA t.r 2 + szA t.r 2 + b ∨ szA t.r 2 + b < lsT 2 t) ↔ (b < -gvT 2 t ∨ 10000 - (c.r.y + c.r.h) < b)) := Lib.hid (by
    have h1 := szA_pos (well_rect (tile_top (show sz t ≤ 20000 by omega) ht).1) (show (2 : Int) = 1 ∨ (2 : Int) = 2 by decide)
    have h2 : atA t.r 2 = c.r.y := by rw [htr]; rfl
    have h3 : szA t.r 2 = c.r.h := by rw [htr]; rfl
    have h4 := ls_pos 2 t
    unfold gvT at hgv ⊢
    omega)
  have HCAN := Lib.hid (aj_can (ax := 2) (b := b) (t := t))
  have HI := Lib.hid hi
  have HM := Lib.hid hm
  have HTT := Lib.hid ht
  obtain ⟨hb1, hb2⟩ := hb
  have hat : atA c.r 2 + szA c.r 2 = c.r.y + c.r.h := rfl
  have hsz : szA c.r 2 = c.r.h := rfl
  rw [hat] at HRM
  rw [hsz] at HSZ
  have d0 : (c.r.h == 0) = false := by rw [beq_eq_false_iff_ne]; omega
  have hng : IntKind.i64.wrap (-gvT 2 t) = -gvT 2 t := wrap_id (by omega)
  generalize hm0 : gvT 2 t = m at HGI HEQ hng hgv
  clear hi hm ht htr hat hsz hm0
  obtain ⟨c0, c1, c2, c3, c4, c5, c6⟩ := c7_of L0.out.box.cat
  go_enter Tryz.func35, Tryz.ntmps35
  go_wp2_with fail
  refine HT.out.mono ?_
  rintro e w1 ⟨rfl, hb1'⟩
  have L1 := Lib.hid (L0.out.up hb1')
  clear hb1' c0 c1 c2 c3 c4 c5 c6 HT
  obtain ⟨c0, c1, c2, c3, c4, c5, c6⟩ := c7_of L1.out.box.cat
  go_wp2_with fail
  refine (HSZ.out w1).mono ?_
  rintro e w2 ⟨rfl, hb2'⟩
  have L2 := Lib.hid (L1.out.up hb2')
  clear hb2' c0 c1 c2 c3 c4 c5 c6 L1
  obtain ⟨c0, c1, c2, c3, c4, c5, c6⟩ := c7_of L2.out.box.cat
  go_wp2_with fail
  refine (HGI.out w2 (L2.out.is HI.out)).mono ?_
  rintro e w3 ⟨rfl, hb3'⟩
  have L3 := Lib.hid (L2.out.up hb3')
  clear hb3' c0 c1 c2 c3 c4 c5 c6 L2
  by_cases g1 : b < -m
  · have d1 : decide (b < -m) = true := decide_eq_true g1
    have HE9 := Lib.hid (HE.out.trans (if_pos (HEQ.out.2 (.inl g1))))
    clear g1
    obtain ⟨⟨z0, z1, z2, z3, z4, z5, z6⟩, f0, f1, f2, f3, f4, f5, f6⟩ := zero_parts L3.out.zero
    go_wp2
    (try simp only [Exit.inBlock, Exit.then])
    refine bodyPost_ret (results_c2 rfl _ _ (w.heap.size + 1) noC rfl ((Box7.of_zero L3.out.zero).put noC)) rfl ?_
    exact aj_err HE9.out (by decide) (below_put7 L3.out.below (by omega) noC)
  have d1 : decide (b < -m) = false := decide_eq_false g1
  obtain ⟨c0, c1, c2, c3, c4, c5, c6⟩ := c7_of L3.out.box.cat
  go_wp2_with fail
  refine (HRM.out w3).mono ?_
  rintro e w4 ⟨rfl, hb4'⟩
  have L4 := Lib.hid (L3.out.up hb4')
  clear hb4' c0 c1 c2 c3 c4 c5 c6 L3
  by_cases g2 : 10000 - (c.r.y + c.r.h) < b
  · have d2 : decide (10000 - (c.r.y + c.r.h) < b) = true := decide_eq_true g2
    have HE9 := Lib.hid (HE.out.trans (if_pos (HEQ.out.2 (.inr g2))))
    clear g1 g2
    obtain ⟨⟨z0, z1, z2, z3, z4, z5, z6⟩, f0, f1, f2, f3, f4, f5, f6⟩ := zero_parts L4.out.zero
    go_wp2
    (try simp only [Exit.inBlock, Exit.then])
    refine bodyPost_ret (results_c2 rfl _ _ (w.heap.size + 1) noC rfl ((Box7.of_zero L4.out.zero).put noC)) rfl ?_
    exact aj_err HE9.out (by decide) (below_put7 L4.out.below (by omega) noC)
  · have d2 : decide (10000 - (c.r.y + c.r.h) < b) = false := decide_eq_false g2
    have hno : ¬ (10000 < b ∨ b < -10000 ∨ 10000 < atA t.r 2 + szA t.r 2 + b ∨ szA t.r 2 + b < lsT 2 t) := fun h => by rcases HEQ.out.1 h with h | h <;> omega
    have HE9 := Lib.hid (HE.out.trans (if_neg hno))
    have hcan := HCAN.out hno
    have D4 : Hid (ASt w c w4.drew) := Lib.hid (L4.out.up (Below.refl _ _).drew)
    have X4 := Lib.hid (c7_of D4.out.box.cat)
    have HWE := Lib.hid (weigh_any 2 (by decide) (sz t) t c w4.drew (Nat.le_refl _) HM.out HTT.out (D4.out.is HI.out))
    have HRE := Lib.hid (fun (x : G) (W : World) (h : IsG W 2 x t) => resized2_any (sz t) t x b W (Nat.le_refl _) HM.out HTT.out hcan h)
    have HSET := Lib.hid (fun (d : C) (W : World) (h : Is W d (adjT 2 b t)) => set_any (sz (adjT 2 b t)) (adjT 2 b t) d c.r.x c.r.y W (Nat.le_refl _) HCF.out.1 HCF.out.2.1 h)
    clear hno g1 g2 hcan HE HCAN
    generalize adjT 2 b t = t' at HRE HSET HST
    go_wp2_with fail
    go_region_held3 (fun W => W.cell? ⟨w.heap.size, 0, none⟩ = some (.int .u8 c.k) ∧ W.cell? ⟨w.heap.size, 1, none⟩ = some (.int .i64 c.r.x) ∧ W.cell? ⟨w.heap.size, 2, none⟩ = some (.int .i64 c.r.y) ∧ W.cell? ⟨w.heap.size, 3, none⟩ = some (.int .i64 c.r.w) ∧ W.cell? ⟨w.heap.size, 4, none⟩ = some (.int .i64 c.r.h) ∧ W.cell? ⟨w.heap.size, 5, none⟩ = some (.int .i64 c.id) ∧ W.cell? ⟨w.heap.size, 6, none⟩ = some (.slice c.a c.n c.cap)) (first | with_reducible exact X4.out | with_reducible exact X5.out | with_reducible exact X6.out | with_reducible exact X7.out | with_reducible exact X8.out)
      (first
        | (go_at_call 54; (with_reducible refine HWE.out.mono ?_); rintro e w5 ⟨x5, rfl, hst5, hb5⟩; have L5 := Lib.hid (D4.out.up hb5); have X5 := Lib.hid (c7_of L5.out.box.cat); have I5 := Lib.hid hst5.is; clear hst5 hb5)
        | (go_at_call 55; (with_reducible refine (HRE.out x5 w5 I5.out).mono ?_); rintro e w6 ⟨d6, rfl, hst6, hb6⟩; have L6 := Lib.hid (L5.out.up hb6); have X6 := Lib.hid (c7_of L6.out.box.cat); have I6 := Lib.hid (hst6.is trivial); clear hst6 hb6)
        | (go_at_call 20; (with_reducible refine (HSET.out d6 w6 I6.out).mono ?_); rintro e w7 ⟨d7, S7, rfl, hown7, -, hb7⟩; have L7 := Lib.hid (L6.out.up hb7); have X7 := Lib.hid (c7_of L7.out.box.cat); have O7 := Lib.hid hown7; have X8 := Lib.hid (c7_put7 (k := w.heap.size + 1) (x := d7) X7.out (by omega)); obtain ⟨⟨z0, z1, z2, z3, z4, z5, z6⟩, f0, f1, f2, f3, f4, f5, f6⟩ := zero_parts L7.out.zero; clear hown7 hb7))
    go_wp2
    (try simp only [Exit.inBlock, Exit.then])
    refine bodyPost_ret (results_c2 rfl _ _ (w.heap.size + 1) d7 rfl ((Box7.of_zero L7.out.zero).put d7)) rfl ?_
    exact aj_ok HE9.out HST.out (stands_put L7.out O7.out rfl (lt_of_block L6.out.zero)) (below_put7 L7.out.below (by omega) d7)

theorem adjust_any (t : T) (c : C) (ax b : Int) (w : World) (hm : sz t ≤ 990) (hi : Is w c t) (hb : fits b) : Calls Tryz.prog 35 #[cval c, .int .u8 ax, .int .i64 b] w (AjSays ax b t .i64 w) := by
  by_cases h : tileB t = true ∧ axB ax = true
  · obtain ⟨ht, ha⟩ := h
    rcases (axB_iff ax).1 ha with rfl | rfl
    · exact adjust1_any t c b w hm hi hb ht
    · exact adjust2_any t c b w hm hi hb ht
  · exact adjust_arg t c ax b w hm hi h
end Go.Proofs.YtcdiogifgemjbaaGreat
/- A cell is spread: the program's walk. -/
namespace Go.Proofs.YtcdiogifgemjbaaGreat
open Go.RowKit

/-- What the program's spread answers. -/
def SpwSays (t : T) (w : World) (e : Ending) (w' : World) : Prop :=
  ∃ d, ((svE t = 0 ∧ e = .returned (.tuple #[cval d, .bool true]) ∧ Stands (fun _ => True) w' w.heap.size w'.heap.size d (svP t)) ∨ (svE t ≠ 0 ∧ d = zC ∧ e = .returned (.tuple #[cval zC, .bool false]))) ∧ Below w.heap.size w w'
theorem spw_no {t : T} {w w' : World} (h : svE t ≠ 0) (hb : Below w.heap.size w w') : SpwSays t w (.returned (.tuple #[cval zC, .bool false])) w' := ⟨zC, .inr ⟨h, rfl, rfl⟩, hb⟩
theorem pev_yes {s : Int} {n : Nat} {w : World} {e : Ending} {w' : World} (h : ∃ v, ((okEv s n ∧ e = .returned (.tuple #[v, .bool true]) ∧ Row w' v (ints (evL s (n : Int).toNat))) ∨ (¬ okEv s n ∧ e = .returned (.tuple #[v, .bool false]) ∧ Row w' v (ints []))) ∧ Below w.heap.size w w') (ho : okEv s n) : ∃ a cap, e = .returned (.tuple #[.slice a n cap, .bool true]) ∧ Row w' (.slice a n cap) (ints (evL s n)) ∧ Below w.heap.size w w' := by
  obtain ⟨v, h1 | h1, hb⟩ := h
  · obtain ⟨-, he, hr⟩ := h1
    rw [Int.toNat_natCast] at hr
    obtain ⟨a, cap, rfl⟩ := row_shape hr
    rw [evL_len] at he hr
    exact ⟨a, cap, he, hr, hb⟩
  · exact absurd ho h1.1
theorem pev_no {s : Int} {n : Nat} {w : World} {e : Ending} {w' : World} (h : ∃ v, ((okEv s n ∧ e = .returned (.tuple #[v, .bool true]) ∧ Row w' v (ints (evL s (n : Int).toNat))) ∨ (¬ okEv s n ∧ e = .returned (.tuple #[v, .bool false]) ∧ Row w' v (ints []))) ∧ Below w.heap.size w w') (ho : ¬ okEv s n) : ∃ v, e = .returned (.tuple #[v, .bool false]) ∧ Below w.heap.size w w' := by
  obtain ⟨v, h1 | h1, hb⟩ := h
  · exact absurd h1.1 ho
  · exact ⟨v, h1.2.1, hb⟩

/-- The cell's box, that of the least ones, and the answer's. -/
structure SpSt (w : World) (c lo : C) (W : World) : Prop where
  below : Below w.heap.size w W
  box : Box7 W w.heap.size c
  low : Box7 W (w.heap.size + 1) lo
  zero : Zero7 W (w.heap.size + 1 + 1)
  size : w.heap.size + 3 ≤ W.heap.size
theorem SpSt.start (w : World) (c lo : C) : SpSt w c lo (((w.alloc (cbox c)).alloc (cbox lo)).alloc zeroBox) := by
  have al : ∀ (W : World) (o : Obj), Below W.heap.size W (W.alloc o) := fun W o => (Below.refl _ _).alloc (Nat.le_refl _) o
  refine ⟨((al w (cbox c)).alloc (by simp) _).alloc (by simp; omega) _, ((Box7.new w c).up (al _ _)).up (al _ _), ?_, ?_, by simp⟩
  · have := (Box7.new (w.alloc (cbox c)) lo).up (al _ zeroBox)
    simpa using this
  · have := zero_new ((w.alloc (cbox c)).alloc (cbox lo))
    simpa using this
theorem SpSt.up {w W W' : World} {c lo : C} (h : SpSt w c lo W) (hb : Below W.heap.size W W') : SpSt w c lo W' :=
  ⟨h.below.trans (hb.mono h.below.size), h.box.up hb, h.low.up hb, zero_up h.zero hb, Nat.le_trans h.size hb.size⟩
theorem SpSt.upB {w W W' : World} {c lo : C} (h : SpSt w c lo W) {B : Nat} (hB : w.heap.size + 3 ≤ B) (hb : Below B W W') : SpSt w c lo W' := by
  have hs := h.size
  exact ⟨h.below.trans (hb.mono (by omega)), (hb.block _ (by omega)).trans h.box, (hb.block _ (by omega)).trans h.low, (hb.block _ (by omega)).trans h.zero, Nat.le_trans h.size hb.size⟩

/-- The kid's box, and its size's cell. -/
abbrev Kq (W : World) (b : Nat) (y : C) (e o : Nat) (m : Int) : Prop := (W.cell? ⟨b, 0, none⟩ = some (.int .u8 y.k) ∧ W.cell? ⟨b, 1, none⟩ = some (.int .i64 y.r.x) ∧ W.cell? ⟨b, 2, none⟩ = some (.int .i64 y.r.y) ∧ W.cell? ⟨b, 3, none⟩ = some (.int .i64 y.r.w) ∧ W.cell? ⟨b, 4, none⟩ = some (.int .i64 y.r.h) ∧ W.cell? ⟨b, 5, none⟩ = some (.int .i64 y.id) ∧ W.cell? ⟨b, 6, none⟩ = some (.slice y.a y.n y.cap)) ∧ W.cell? ⟨e, o, none⟩ = some (.int .i64 m)
theorem kq_of {W : World} {b : Nat} {y : C} {e o : Nat} {m : Int} (h : Box7 W b y) (hc : W.cell? ⟨e, o, none⟩ = some (.int .i64 m)) : Kq W b y e o m := ⟨c7_of h.cat, hc⟩
theorem cell_up {W W' : World} {a : Addr} {v : Value} (h : W.cell? a = some v) (hb : Below W.heap.size W W') : W'.cell? a = some v := (hb.cell (lt_of_cell h)).trans h
/-- What is in a box of its own is written over: all else stays. -/
theorem cell_put7 {W : World} {a : Addr} {v : Value} {b : Nat} (d : C) (h : W.cell? a = some v) (hne : a.block ≠ b) : (put7 W b d).cell? a = some v := (World.cell?_of_block (heap_put7 hne)).trans h

/-- The end of it: the cell with its new kids. -/
abbrev spwW (w wr : World) (d : C) : World := put7 (wr.setCell ⟨w.heap.size, 6, none⟩ (.slice d.a d.n d.cap)) (w.heap.size + 1 + 1) d
theorem spwW_other {w wr : World} {d : C} {k : Nat} (h1 : k ≠ w.heap.size) (h2 : k ≠ w.heap.size + 1 + 1) : (spwW w wr d).heap[k]? = wr.heap[k]? := (heap_put7 h2).trans (Below.heap_setCell wr ⟨w.heap.size, 6, none⟩ _ k h1)
theorem spwW_size (w wr : World) (d : C) : (spwW w wr d).heap.size = wr.heap.size := by unfold spwW; rw [size_put7]; simp [World.setCell]
theorem spw_yes {w wr : World} {t : T} {k : Int} {r : R} {id : Int} {a : Option Addr} {cap base : Nat} {cs : List C} (h0 : svE t = 0) (hb : Below w.heap.size w wr) (h : Grove (fun _ => True) wr base (.slice a cs.length cap) cs (svQ t)) (hbase : w.heap.size + 3 ≤ base) (he : t.k = k ∧ t.r = r ∧ t.id = id) (hk : 0 ≤ k ∧ k ≤ 255) (hr : r.fits) (hi : fits id) (hl : t.kids.length ≤ 990) :
    SpwSays t w (.returned (.tuple #[cval ⟨k, r, id, a, cs.length, cap⟩, .bool true])) (spwW w wr ⟨k, r, id, a, cs.length, cap⟩) := by
  obtain ⟨rfl, rfl, rfl⟩ := he
  refine ⟨_, .inl ⟨h0, rfl, ?_⟩, below_put7 (hb.setCell (p := ⟨w.heap.size, 6, none⟩) (Nat.le_refl _) _) (by omega) _⟩
  have hst := h.tree (k := t.k) (r := t.r) (id := t.id) hk hr hi (by rw [svQ_len]; omega)
  exact (hst.move (w2 := spwW w wr ⟨t.k, t.r, t.id, a, cs.length, cap⟩) fun j hj _ => spwW_other (by omega) (by omega)).wide (by omega) (by rw [spwW_size]; exact Nat.le_refl _)

set_option maxHeartbeats 8000000 in
set_option maxRecDepth 100000 in
theorem spread_any (t : T) (c lo : C) (w : World) (hm : sz t ≤ 990) (ht : tileB t = true) (hi : Is w c t) (hl : Is w lo (loT t)) : Calls Tryz.prog 17 #[cval c, cval lo] w (SpwSays t w) := by
  have hw := (tile_top (by omega) ht).1
  have hr := may_rect (well_rect hw)
  have hkind := well_kind hw
  have hfn : t.kids.length ≤ 990 := by have := sz_node t; have := szL_len t.kids; omega
  have HFC := Lib.hid (kid_cell hi)
  have hcell := kid_cell hi
  have HROW := Lib.hid hi.row
  have hn := hi.n
  have hlk : (loT t).kids = loL t.kids := by rw [loT_eq]; rfl
  have hlr := hl.row
  rw [hlk] at hlr
  have hln := hl.n
  rw [hlk, loL_len] at hln
  obtain ⟨ck, cr, cid, ca, cn, ccap⟩ := c
  obtain ⟨lk, lr, lid, la, ln, lcap⟩ := lo
  simp only at hn hln
  subst hn
  subst hln
  have HLR : Hid (TRow w (.slice la t.kids.length lcap) (loL t.kids)) := Lib.hid hlr
  obtain ⟨-, -, -, e1, e2, -⟩ := hcell
  simp only at e1 e2
  obtain ⟨ax, hax⟩ : ∃ ax, axO ck = ax := ⟨_, rfl⟩
  have hax12 : ax = 1 ∨ ax = 2 := by
    rcases hkind with h | h | h
    · rw [← hax, axO_leaf (by omega)]; exact .inr rfl
    · rw [← hax, axO_is (by omega)]; omega
    · rw [← hax, axO_is (by omega)]; omega
  have haxk : t.k ≠ 1 → t.k - 1 = ax := fun h => by rw [← hax, axO_is (by omega)]; omega
  obtain ⟨S, hS⟩ : ∃ S, szA cr ax = S := ⟨_, rfl⟩
  have hS2 : t.k ≠ 1 → szA t.r (t.k - 1) = S := fun h => by rw [haxk h, e2]; exact hS
  have hSb : 1 ≤ S ∧ S ≤ 10000 := by rw [← hS]; rw [e2] at hr; unfold szA; split <;> omega
  have HSB := Lib.hid hSb
  have HAX0 : Hid (∀ W, Calls Tryz.prog 33 #[cval ⟨ck, cr, cid, ca, t.kids.length, ccap⟩] W fun e w' => e = .returned (.int .u8 ax) ∧ Below W.heap.size W w') := Lib.hid fun W => by
    have := axisOf_any ⟨ck, cr, cid, ca, t.kids.length, ccap⟩ W
    simp only [hax] at this
    exact this
  have HSZ0 : Hid (∀ W, Calls Tryz.prog 34 #[val cr, .int .u8 ax] W fun e w' => e = .returned (.int .i64 S) ∧ Below W.heap.size W w') := Lib.hid fun W => by
    have := lsize_any cr ax W
    rw [hS] at this
    exact this
  have HEV := Lib.hid (fun W => evn_any S (t.kids.length : Int) W (by unfold fits; omega) (by unfold fits; omega))
  have L0 := Lib.hid (SpSt.start w ⟨ck, cr, cid, ca, t.kids.length, ccap⟩ ⟨lk, lr, lid, la, t.kids.length, lcap⟩)
  have HLEAF : Hid (t.k = 1 → ¬ okEv S t.kids.length) := Lib.hid fun h ho => by
    have h0 := leaf_none (by omega) ht h
    have := ho.1
    rw [h0] at this
    simp at this
  have HM := Lib.hid hm
  have HTT := Lib.hid ht
  have HFN := Lib.hid hfn
  have HAX := Lib.hid hax12
  have HAXK := Lib.hid haxk
  have HSS := Lib.hid hS2
  have HI := Lib.hid hi
  clear hi hl hm ht hw hr hkind hlk hlr hS hS2 hax hax12 haxk e1 e2 hSb
  go_enter Tryz.func17, Tryz.ntmps17
  go_upto_region 1 with fail
  change Code.wp _ _ _ _ (((w.alloc (cbox ⟨ck, cr, cid, ca, t.kids.length, ccap⟩)).alloc (cbox ⟨lk, lr, lid, la, t.kids.length, lcap⟩)).alloc zeroBox)
  generalize ((w.alloc (cbox ⟨ck, cr, cid, ca, t.kids.length, ccap⟩)).alloc (cbox ⟨lk, lr, lid, la, t.kids.length, lcap⟩)).alloc zeroBox = W0 at L0 ⊢
  obtain ⟨c0, c1, c2, c3, c4, c5, c6⟩ := c7_of L0.out.box.cat
  go_wp2_with fail
  refine (HAX0.out W0).mono ?_
  rintro e w2 ⟨rfl, hb2⟩
  have L2 := Lib.hid (L0.out.up hb2)
  clear hb2 c0 c1 c2 c3 c4 c5 c6 L0 HAX0
  have D2 : Hid (SpSt w ⟨ck, cr, cid, ca, t.kids.length, ccap⟩ ⟨lk, lr, lid, la, t.kids.length, lcap⟩ w2.drew) := Lib.hid (L2.out.up (Below.refl _ _).drew)
  have HX : Hid (∀ W, SpSt w ⟨ck, cr, cid, ca, t.kids.length, ccap⟩ ⟨lk, lr, lid, la, t.kids.length, lcap⟩ W → C7 w.heap.size ⟨ck, cr, cid, ca, t.kids.length, ccap⟩ W) := Lib.hid fun W L => c7_of L.box.cat
  obtain ⟨c0, c1, c2, c3, c4, c5, c6⟩ := c7_of L2.out.box.cat
  by_cases hok : okEv S t.kids.length
  · have HOK := Lib.hid hok
    have HK1 : Hid (t.k ≠ 1) := Lib.hid fun h => HLEAF.out h hok
    have hn1 : 0 < t.kids.length := by have := hok.1; omega
    have HEY : Hid (∀ W, Calls Tryz.prog 13 #[.int .i64 S, .int .i64 (t.kids.length : Int)] W fun e w' => ∃ a cap, e = .returned (.tuple #[.slice a t.kids.length cap, .bool true]) ∧ Row w' (.slice a t.kids.length cap) (ints (evL S t.kids.length)) ∧ Below W.heap.size W w') := Lib.hid fun W => (HEV.out W).mono fun e w' h => pev_yes h HOK.out
    clear hok HEV
    go_wp2_with fail
    go_region_held3 (fun W => W.cell? ⟨w.heap.size, 0, none⟩ = some (.int .u8 ck) ∧ W.cell? ⟨w.heap.size, 1, none⟩ = some (.int .i64 cr.x) ∧ W.cell? ⟨w.heap.size, 2, none⟩ = some (.int .i64 cr.y) ∧ W.cell? ⟨w.heap.size, 3, none⟩ = some (.int .i64 cr.w) ∧ W.cell? ⟨w.heap.size, 4, none⟩ = some (.int .i64 cr.h) ∧ W.cell? ⟨w.heap.size, 5, none⟩ = some (.int .i64 cid) ∧ W.cell? ⟨w.heap.size, 6, none⟩ = some (.slice ca t.kids.length ccap)) (exact HX.out _ (by first | with_reducible exact D2.out | with_reducible exact L3.out | with_reducible exact L4.out))
      (first
        | (go_at_call 34; (with_reducible refine (HSZ0.out _).mono ?_); rintro e w3 ⟨rfl, hb3⟩; have L3 := Lib.hid (D2.out.up hb3); clear hb3)
        | (go_at_call 13; (with_reducible refine (HEY.out _).mono ?_); rintro e w4 ⟨a4, cap4, rfl, ho4, hb4⟩; have L4 := Lib.hid (L3.out.up hb4); have O4 := Lib.hid ho4; clear ho4 hb4))
    rename_i hh9
    clear hh9
    obtain ⟨e4, o4, rfl, hfs⟩ := int_at O4.out (by rw [evL_len]; exact hn1)
    have HFS := Lib.hid hfs
    obtain ⟨b, o, rfl, hf⟩ := HROW.out.place (by omega)
    obtain ⟨lb, lq, rfl, hfl⟩ := HLR.out.place (by rw [loL_len]; omega)
    have HF := Lib.hid hf
    have HFL := Lib.hid hfl
    have HB4 := Lib.hid L4.out.below
    clear c0 c1 c2 c3 c4 c5 c6 hfs hf hfl L2 D2
    obtain ⟨c0, c1, c2, c3, c4, c5, c6⟩ := c7_of L4.out.box.cat
    have HG4 : Hid (Grove (fun _ => True) w4 w4.heap.size (.slice none 0 0) [] []) := Lib.hid (Grove.nil _ _ _)
    go_wp2
    go_loopg [9, 31] (t.kids.length + 1) (fun gg v i wr => ∃ (k : Nat) (cs : List C), gg + k = t.kids.length + 1 ∧ k ≤ t.kids.length ∧ i = .int .i64 k ∧ Grove (fun _ => True) wr w4.heap.size v cs ((svQ t).take k) ∧ Below w4.heap.size w4 wr ∧ ∀ (j : Nat) (u : T), j < k → t.kids[j]? = some u → lsT ax u ≤ evZ S t.kids.length j)
    case atStart => exact ⟨0, [], by omega, by omega, rfl, HG4.out, Below.refl _ _, fun j u hj => by omega⟩
    case round =>
      obtain ⟨k, cs, hg, hk, rfl, hgr, hb, hno⟩ := hrel
      have HGG := Lib.hid hg
      have HGR := Lib.hid hgr
      have HBR := Lib.hid hb
      have HNO := Lib.hid hno
      have LR := Lib.hid (L4.out.up hb)
      clear hg hgr hb hno c0 c1 c2 c3 c4 c5 c6
      by_cases hlt : k < t.kids.length
      · have hlti : (k : Int) < (t.kids.length : Int) := by omega
        obtain ⟨u, hu⟩ : ∃ u, t.kids[k]? = some u := ⟨_, List.getElem?_eq_getElem hlt⟩
        obtain ⟨z, hz, hiz⟩ := HF.out k u hu
        have hzr := hz.up LR.out.below
        obtain ⟨y, hy, hiy⟩ := HFL.out k (loT u) (by rw [loL_get, hu]; rfl)
        have hsp := sv_kid (by have := HM.out; omega) HTT.out HK1.out (by rw [HSS.out HK1.out]; exact HOK.out) hu
        have hpk := svp_kid (by have := HM.out; omega) HTT.out HK1.out (by rw [HSS.out HK1.out]; exact HOK.out) hu
        have hsa := svS_at hu
        have hst := svQ_step hu
        rw [HSS.out HK1.out, HAXK.out HK1.out] at hsp hpk hsa
        rw [HAXK.out HK1.out] at hst
        have hev := HFS.out k _ (evL_get hlt)
        have hly : szA y.r ax = lsT ax u := by
          have h1 : (loT u).r = y.r := hiy.split.2.1
          rw [← h1]; exact lo_szA HAX.out u
        have hur : u.r = z.r := hiz.split.2.1
        rw [hur] at hsp hsa
        have htr : t.r = cr := HFC.out.2.2.2.2.1
        have HU := Lib.hid hu
        have HUS : Hid (sz u ≤ 990) := Lib.hid (by have := sz_kid hu; have := HM.out; omega)
        have HZR := Lib.hid (fun W => lsize_any z.r ax W)
        have HYR := Lib.hid (fun W => lsize_any y.r ax W)
        have HAJ := Lib.hid (fun (d : C) (W : World) (hI : Is W d (setT t.r.x t.r.y u)) => adjust_any (setT t.r.x t.r.y u) d ax (svS t k) W (by rw [setT_sz]; exact HUS.out) hI (by rw [hsa]; unfold fits; omega))
        have hc1 : fits cr.x := HFC.out.2.1.1
        have hc2 : fits cr.y := HFC.out.2.1.2.1
        have HSET := Lib.hid (fun (W : World) (hB : Below wr.heap.size wr W) => set_any (sz u) u z cr.x cr.y W (Nat.le_refl _) hc1 hc2 (hiz.up (LR.out.below.trans (hB.mono LR.out.below.size))))
        have HEVC := Lib.hid (show wr.cell? ⟨e4, o4 + k, none⟩ = some (.int .i64 (evZ S t.kids.length k)) from cell_up hev HBR.out)
        have hyc := hy.up LR.out.below
        have HAE : Hid (lsT ax u ≤ evZ S t.kids.length k → ajE ax (svS t k) (setT cr.x cr.y u) = 0) := Lib.hid fun h => by rw [← htr]; exact hpk.2.2 h
        have HNO2 : Hid (evZ S t.kids.length k < lsT ax u → svE t = 7) := Lib.hid fun h => svp_no (by have := HM.out; omega) HTT.out HK1.out (by rw [HSS.out HK1.out]; exact HOK.out) hu (by rw [HSS.out HK1.out, HAXK.out HK1.out]; exact h)
        rw [htr] at HAJ hst
        have HST := Lib.hid hst
        unfold AjSays at HAJ
        have hur2 : u.r = z.r := hur
        obtain ⟨-, -, g1, g2, g3, g4, -⟩ := hsp
        rw [hly] at HYR
        have HZS : Hid (szA z.r ax = szA (setT cr.x cr.y u).r ax) := Lib.hid (by rw [set_szA, hur])
        clear hpk hiz hiy hz hy hu hst hly hur hur2 htr hc1 hc2
        obtain ⟨ev, hevv⟩ : ∃ ev, evZ S t.kids.length k = ev := ⟨_, rfl⟩
        obtain ⟨lu, hlu⟩ : ∃ lu, lsT ax u = lu := ⟨_, rfl⟩
        obtain ⟨sx, hsx⟩ : ∃ sx, szA z.r ax = sx := ⟨_, rfl⟩
        obtain ⟨sb, hsb⟩ : ∃ sb, svS t k = sb := ⟨_, rfl⟩
        rw [hevv] at hsa hev HEVC HAE HNO2 g1 g2
        rw [hlu] at HYR HAE HNO2
        rw [hsx] at hsa HZR HZS g3 g4
        rw [hsb] at hsa HAJ HAE HST
        have HEVL := Lib.hid (show evZ S t.kids.length k = ev ∧ lsT ax u = lu from ⟨hevv, hlu⟩)
        have hws : IntKind.i64.wrap (ev - sx) = sb := by rw [hsa]; exact wrap_id (by omega)
        clear hevv hlu hsx hsb hsa hev g1 g2 g3 g4
        have HXL : Hid (∀ W, Below wr.heap.size wr W → W.cell? ⟨w.heap.size + 1, 6, none⟩ = some (.slice (some ⟨lb, lq, none⟩) t.kids.length lcap) ∧ (W.cell? ⟨lb, lq + k * 7, none⟩ = some (.int .u8 y.k) ∧ W.cell? ⟨lb, lq + k * 7 + 1, none⟩ = some (.int .i64 y.r.x) ∧ W.cell? ⟨lb, lq + k * 7 + 2, none⟩ = some (.int .i64 y.r.y) ∧ W.cell? ⟨lb, lq + k * 7 + 3, none⟩ = some (.int .i64 y.r.w) ∧ W.cell? ⟨lb, lq + k * 7 + 4, none⟩ = some (.int .i64 y.r.h) ∧ W.cell? ⟨lb, lq + k * 7 + 5, none⟩ = some (.int .i64 y.id) ∧ W.cell? ⟨lb, lq + k * 7 + 6, none⟩ = some (.slice y.a y.n y.cap)) ∧ W.cell? ⟨e4, o4 + k, none⟩ = some (.int .i64 ev)) := Lib.hid fun W hB => ⟨(c7_of (LR.out.up hB).low.cat).2.2.2.2.2.2, hyc.up hB, cell_up HEVC.out hB⟩
        have D1 : Hid (Below wr.heap.size wr (wr.alloc (cbox z)).drew) := Lib.hid ((Below.refl _ _).alloc (Nat.le_refl _) _).drew
        have KD : Hid (Box7 (wr.alloc (cbox z)).drew wr.heap.size z) := Lib.hid ((Box7.new wr z).up (Below.refl _ _).drew)
        obtain ⟨p0, p1, p2, p3, p4, p5, p6⟩ := hzr
        clear hyc
        go_wp2_with fail
        go_region_held3 (fun W => W.cell? ⟨w.heap.size + 1, 6, none⟩ = some (.slice (some ⟨lb, lq, none⟩) t.kids.length lcap) ∧ (W.cell? ⟨lb, lq + k * 7, none⟩ = some (.int .u8 y.k) ∧ W.cell? ⟨lb, lq + k * 7 + 1, none⟩ = some (.int .i64 y.r.x) ∧ W.cell? ⟨lb, lq + k * 7 + 2, none⟩ = some (.int .i64 y.r.y) ∧ W.cell? ⟨lb, lq + k * 7 + 3, none⟩ = some (.int .i64 y.r.w) ∧ W.cell? ⟨lb, lq + k * 7 + 4, none⟩ = some (.int .i64 y.r.h) ∧ W.cell? ⟨lb, lq + k * 7 + 5, none⟩ = some (.int .i64 y.id) ∧ W.cell? ⟨lb, lq + k * 7 + 6, none⟩ = some (.slice y.a y.n y.cap)) ∧ W.cell? ⟨e4, o4 + k, none⟩ = some (.int .i64 ev)) (exact HXL.out _ (by first | with_reducible exact D1.out | with_reducible exact B6.out))
          (first
            | (go_at_call 34; (with_reducible refine (HYR.out _).mono ?_); rintro e w6 ⟨rfl, hb6⟩; have B6 := Lib.hid (D1.out.trans (hb6.mono D1.out.size)); have K6 := Lib.hid (KD.out.up hb6); clear hb6))
        all_goals (rename_i hh9; clear hh9)
        have L6 := Lib.hid (LR.out.up B6.out)
        clear p0 p1 p2 p3 p4 p5 p6 D1 KD
        by_cases hlo : ev < lu
        · have d5 : decide (ev < lu) = true := decide_eq_true hlo
          have HSE := Lib.hid (HNO2.out hlo)
          obtain ⟨⟨z0, z1, z2, z3, z4, z5, z6⟩, f0, f1, f2, f3, f4, f5, f6⟩ := zero_parts L6.out.zero
          go_wp2
          (try simp only [Exit.inBlock, Exit.then])
          refine bodyPost_ret (results_c2 rfl _ _ (w.heap.size + 1 + 1) zC rfl ((Box7.of_zero L6.out.zero).put zC)) rfl ?_
          exact spw_no (by rw [HSE.out]; decide) (below_put7 L6.out.below (by omega) zC)
        · have d5 : decide (ev < lu) = false := decide_eq_false hlo
          have HA0 := Lib.hid (HAE.out (by omega))
          have HADK : Hid (∀ (d : C) (W : World), Is W d (setT cr.x cr.y u) → Calls Tryz.prog 35 #[cval d, .int .u8 ax, .int .i64 sb] W (fun e w' => ∃ d', e = .returned (.tuple #[cval d', .int .i64 0]) ∧ Stands (fun _ => True) w' W.heap.size w'.heap.size d' (ajT ax sb (setT cr.x cr.y u)) ∧ Below W.heap.size W w')) := Lib.hid fun d W hI => (HAJ.out d W hI).mono fun e w' h => by rw [HA0.out, if_pos rfl] at h; exact h
          clear HAJ HAE
          obtain ⟨q0, q1, q2, q3, q4, q5, q6⟩ := c7_of K6.out.cat
          obtain ⟨c0, c1, c2, c3, c4, c5, c6⟩ := c7_of L6.out.box.cat
          go_wp2_with fail
          refine (HSET.out w6 B6.out).mono ?_
          rintro e w7 ⟨d5, S5, rfl, hown5, -, hb7⟩
          have B7 := Lib.hid (B6.out.trans (hb7.mono B6.out.size))
          have K7 := Lib.hid (K6.out.up hb7)
          have HLT : Hid (wr.heap.size < w6.heap.size) := Lib.hid (lt_of_block K6.out)
          have OS := Lib.hid (OwnT.stands hown5)
          clear hown5 hb7 q0 q1 q2 q3 q4 q5 q6 c0 c1 c2 c3 c4 c5 c6
          obtain ⟨q0, q1, q2, q3, q4, q5, q6⟩ := c7_of K7.out.cat
          have r0 := K7.out.free 0
          have r1 := K7.out.free 1
          have r2 := K7.out.free 2
          have r3 := K7.out.free 3
          have r4 := K7.out.free 4
          have r5 := K7.out.free 5
          have r6 := K7.out.free 6
          go_upto_region 12 with fail
          change Code.wp _ _ _ _ (put7 w7 wr.heap.size d5)
          clear q0 q1 q2 q3 q4 q5 q6 r0 r1 r2 r3 r4 r5 r6
          have K8 := Lib.hid (K7.out.put d5)
          have B8 := Lib.hid (below_put7 B7.out (Nat.le_refl _) d5)
          have I8 : Hid (Is (put7 w7 wr.heap.size d5) d5 (setT cr.x cr.y u)) := Lib.hid ((OS.out.move (w2 := put7 w7 wr.heap.size d5) fun j hj _ => heap_put7 (by have := HLT.out; omega)).is trivial)
          generalize put7 w7 wr.heap.size d5 = w8 at K8 B8 I8 ⊢
          clear K7 B7 OS
          have KD8 : Hid (Box7 w8.drew wr.heap.size d5) := Lib.hid (K8.out.up (Below.refl _ _).drew)
          have BD8 := Lib.hid (B8.out.drew)
          have ID8 := Lib.hid (I8.out.up (Below.refl _ _).drew)
          have XD8 := Lib.hid (kq_of KD8.out (cell_up HEVC.out BD8.out))
          have HZQ : Hid (∀ W, Calls Tryz.prog 34 #[val d5.r, .int .u8 ax] W fun e w' => e = .returned (.int .i64 sx) ∧ Below W.heap.size W w') := Lib.hid fun W => by
            have h := lsize_any d5.r ax W
            have h1 : (setT cr.x cr.y u).r = d5.r := I8.out.split.2.1
            rw [← h1, ← HZS.out] at h
            rw [← h1]
            exact h
          obtain ⟨⟨q0, q1, q2, q3, q4, q5, q6⟩, y8⟩ := XD8.out
          go_region_law (
            first
            | (go_simp; go_at_call 34; (with_reducible refine (HZQ.out _).mono ?_); rintro e w9 ⟨rfl, hb9⟩; have B9 := Lib.hid (BD8.out.trans (hb9.mono BD8.out.size)); have K9 := Lib.hid (KD8.out.up hb9); have I9 := Lib.hid (ID8.out.up hb9); have X9 := Lib.hid (kq_of K9.out (cell_up HEVC.out B9.out)); obtain ⟨⟨v0, v1, v2, v3, v4, v5, v6⟩, y9⟩ := X9.out; clear hb9)
            | (go_simp; go_at_call 35; (with_reducible refine (HADK.out d5 w9 I9.out).mono ?_); rintro e w10 ⟨d7, rfl, hst10, hb10⟩; have B10 := Lib.hid (B9.out.trans (hb10.mono B9.out.size)); have K10 := Lib.hid (K9.out.up hb10); have S10 := Lib.hid hst10; obtain ⟨s0, s1, s2, s3, s4, s5, s6⟩ := c7_of K10.out.cat; have r0 := K10.out.free 0; have r1 := K10.out.free 1; have r2 := K10.out.free 2; have r3 := K10.out.free 3; have r4 := K10.out.free 4; have r5 := K10.out.free 5; have r6 := K10.out.free 6; clear hst10 hb10))
          all_goals
            change Exit.then _ _ _ _ (put7 w10 wr.heap.size d7)
            have K11 := Lib.hid (K10.out.put d7)
            have B11 := Lib.hid (below_put7 B10.out (Nat.le_refl _) d7)
            have S11 : Hid (Stands (fun _ => True) (put7 w10 wr.heap.size d7) wr.heap.size (put7 w10 wr.heap.size d7).heap.size d7 (ajT ax sb (setT cr.x cr.y u))) := Lib.hid ((S10.out.move (w2 := put7 w10 wr.heap.size d7) fun j hj _ => heap_put7 (by have := lt_of_block K9.out; omega)).wide (by have := lt_of_block K9.out; omega) (by rw [size_put7]; exact Nat.le_refl _))
            generalize put7 w10 wr.heap.size d7 = w11 at K11 B11 S11 ⊢
            clear q0 q1 q2 q3 q4 q5 q6 r0 r1 r2 r3 r4 r5 r6 s0 s1 s2 s3 s4 s5 s6 v0 v1 v2 v3 v4 v5 v6 y8 y9 K10 B10 S10
            obtain ⟨q0, q1, q2, q3, q4, q5, q6⟩ := c7_of K11.out.cat
            have AL : Hid (Below w11.heap.size w11 (w11.alloc (cbox d7))) := Lib.hid ((Below.refl _ _).alloc (Nat.le_refl _) _)
            have HLC : Hid (cs.length ≤ 990) := Lib.hid (by
              have h1 := HGR.out.len
              rw [List.length_take] at h1
              have := HFN.out; omega)
            go_wp2_with (at_builtin; refine wpList_append_cells rfl _ _ rfl w4.heap.size u9 _ cs [d7] rfl ((HGR.out.row.up B11.out).up AL.out) rfl (OwnC.one w11 0 (Nat.zero_le _) d7).row (by simp) (by have := HLC.out; simp only [List.length_cons, List.length_nil]; omega) w4 ((HBR.out.trans (B11.out.mono HBR.out.size)).trans (AL.out.mono (Nat.le_trans HBR.out.size B11.out.size))) (Nat.le_refl _) ?_; intro g3 cap3 w12 hown3 hb3 hgr3 hpl3)
            have HF3 := Lib.hid (HGR.out.one B11.out AL.out HBR.out.size S11.out hown3 hgr3 hpl3)
            have HB3 := Lib.hid hb3
            clear hown3 hb3 hgr3 hpl3 q0 q1 q2 q3 q4 q5 q6
            have e9 : wrap64 ((k : Int) + 1) = ((k + 1 : Nat) : Int) := by have := HFN.out; rw [← wrapE, wrap_id (by omega)]; omega
            go_wp2
            go_roundg (gk - 1)
            case measure => have := HGG.out; omega
            case rel =>
              refine ⟨k + 1, cs ++ [d7], by have := HGG.out; omega, by omega, by first | rfl | exact congrArg _ e9 | (rw [e9]) | (congr 1; omega) | (simp only [IntKind.wrap_i64, e9]), ?_, HB3.out, fun j v hj hv => ?_⟩
              · rw [HST.out]
                simpa using HF3.out
              · rcases Nat.lt_or_ge j k with h | h
                · exact HNO.out j v h hv
                · obtain rfl : j = k := by omega
                  rw [HU.out] at hv; cases hv
                  rw [HEVL.out.1, HEVL.out.2]; omega
      · obtain rfl : k = t.kids.length := by omega
        have hkl : ((t.kids.length : Int) < (t.kids.length : Int)) = False := by simp
        have HSE : Hid (svE t = 0) := Lib.hid (svp_ok (by have := HM.out; omega) HTT.out HK1.out (by rw [HSS.out HK1.out]; exact HOK.out) fun j u hu => by rw [HSS.out HK1.out, HAXK.out HK1.out]; exact HNO.out j u (List.getElem?_eq_some_iff.1 hu).1 hu)
        have HGF : Hid (Grove (fun _ => True) wr w4.heap.size u9 cs (svQ t)) := Lib.hid (by have := HGR.out; rw [List.take_of_length_le (by rw [svQ_len]; omega)] at this; exact this)
        obtain ⟨a', cap', rfl⟩ := HGF.out.row.row.shape
        clear HGR
        obtain ⟨c0, c1, c2, c3, c4, c5, c6⟩ := c7_of LR.out.box.cat
        have g6 := LR.out.box.free 6
        obtain ⟨⟨z0, z1, z2, z3, z4, z5, z6⟩, f0, f1, f2, f3, f4, f5, f6⟩ := zero_parts LR.out.zero
        go_wp2
        (try simp only [Exit.inBlock, Exit.then])
        have hz2 : Box7 (wr.setCell ⟨w.heap.size, 6, none⟩ (.slice a' cs.length cap')) (w.heap.size + 1 + 1) zC := (row_other _ (by omega)).trans LR.out.zero
        refine bodyPost_ret (results_c2 rfl _ _ (w.heap.size + 1 + 1) ⟨ck, cr, cid, a', cs.length, cap'⟩ rfl (hz2.put ⟨ck, cr, cid, a', cs.length, cap'⟩)) rfl ?_
        exact spw_yes HSE.out LR.out.below HGF.out L4.out.size ⟨HFC.out.2.2.2.1, HFC.out.2.2.2.2.1, HFC.out.2.2.2.2.2⟩ HFC.out.1 HFC.out.2.1 HFC.out.2.2.1 HFN.out
  · have HSE : Hid (svE t ≠ 0) := Lib.hid fun h => by
      obtain ⟨h1, h2, -⟩ := svE_zero h
      rw [HSS.out h1] at h2
      exact hok h2
    have HEN : Hid (∀ W, Calls Tryz.prog 13 #[.int .i64 S, .int .i64 (t.kids.length : Int)] W fun e w' => ∃ v, e = .returned (.tuple #[v, .bool false]) ∧ Below W.heap.size W w') := Lib.hid fun W => (HEV.out W).mono fun e w' h => pev_no h hok
    clear hok HEV
    go_wp2_with fail
    go_region_held3 (fun W => W.cell? ⟨w.heap.size, 0, none⟩ = some (.int .u8 ck) ∧ W.cell? ⟨w.heap.size, 1, none⟩ = some (.int .i64 cr.x) ∧ W.cell? ⟨w.heap.size, 2, none⟩ = some (.int .i64 cr.y) ∧ W.cell? ⟨w.heap.size, 3, none⟩ = some (.int .i64 cr.w) ∧ W.cell? ⟨w.heap.size, 4, none⟩ = some (.int .i64 cr.h) ∧ W.cell? ⟨w.heap.size, 5, none⟩ = some (.int .i64 cid) ∧ W.cell? ⟨w.heap.size, 6, none⟩ = some (.slice ca t.kids.length ccap)) (exact HX.out _ (by first | with_reducible exact D2.out | with_reducible exact L3.out | with_reducible exact L4.out))
      (first
        | (go_at_call 34; (with_reducible refine (HSZ0.out _).mono ?_); rintro e w3 ⟨rfl, hb3⟩; have L3 := Lib.hid (D2.out.up hb3); clear hb3)
        | (go_at_call 13; (with_reducible refine (HEN.out _).mono ?_); rintro e w4 ⟨v4, rfl, hb4⟩; have L4 := Lib.hid (L3.out.up hb4); clear hb4))
    rename_i hh9
    clear hh9
    obtain ⟨⟨z0, z1, z2, z3, z4, z5, z6⟩, f0, f1, f2, f3, f4, f5, f6⟩ := zero_parts L4.out.zero
    go_wp2
    (try simp only [Exit.inBlock, Exit.then])
    refine bodyPost_ret (results_c2 rfl _ _ (w.heap.size + 1 + 1) zC rfl ((Box7.of_zero L4.out.zero).put zC)) rfl ?_
    exact spw_no HSE.out (below_put7 L4.out.below (by omega) zC)
end Go.Proofs.YtcdiogifgemjbaaGreat
