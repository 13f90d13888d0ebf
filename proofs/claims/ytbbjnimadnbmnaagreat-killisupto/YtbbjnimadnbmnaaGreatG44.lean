/- Texts of this seat, 3 in one file. -/
import Derived.Test.YtbbjnimadnbmnaaGreatG43
import Derived.Test.YtbbjnimadnbmnaaGreatG10
import Derived.Test.YtbbjnimadnbmnaaGreatG26
import Derived.Test.YtbbjnimadnbmnaaGreatG38
import Derived.Test.YtbbjnimadnbmnaaGreatG25
/- The tree in which two stand where a leaf stood: the program's replaced, walked. -/
namespace Go.Proofs.YtbbjnimadnbmnaaGreat
open Go.RowKit

theorem around_len {t u g : T} {p pl : List Int} {ax : Int} {k : Nat} (hs : sz t ≤ 20000) (ht : tileB t = true) (h : Around t p ax u g pl k) : g.kids.length ≤ 20000 ∧ pl.length ≤ p.length := by
  rcases h with ⟨q, j, rfl, hg, -, rfl, rfl⟩ | ⟨rfl, rfl, rfl, -⟩
  · have h1 := (tile_at hs ht hg).2
    have h2 := sz_node g
    have h3 := szL_len g.kids
    exact ⟨by omega, by simp⟩
  · exact ⟨by simp [mkG, T.kids], Nat.le_refl _⟩

set_option maxHeartbeats 1000000 in
set_option maxRecDepth 100000 in
theorem replaced_any (t u : T) (c : C) (p : List Int) (va : Option Addr) (vcap base : Nat) (ax : Int) (ps : List C) (ls : List T) (pg : Nat) (w : World) (hs : sz t ≤ 20000) (ht : tileB t = true) (hi : Is w c t) (hp : PRow w base (.slice va p.length vcap) p) (hpl : p.length ≤ 1000000) (hu : atT t p = some u) (hax : ax = 1 ∨ ax = 2)
    (hps : OwnC w 0 (.slice (some ⟨pg, 0, none⟩) 2 2) ps) (htops : ∀ W, Tops W ps ls) : Calls Tryz.prog 30 #[cval c, .slice va p.length vcap, .int .u8 ax, .slice (some ⟨pg, 0, none⟩) 2 2] w (RpSays t p ax u ls w) := by
  have L0 := Lib.hid (ASt.start w c)
  have hpg : pg < w.heap.size := (own_block hps rfl).2
  have HAR := Lib.hid (around_any t u c p va vcap base ax (cellW w c) (L0.out.is hi) (hp.up L0.out.below) hpl hu hax)
  have HI := Lib.hid hi
  have HU := Lib.hid hu
  have HPS := Lib.hid hps
  have HTP := Lib.hid htops
  have HLEN := Lib.hid (fun (g : T) (pl : List Int) (k : Nat) (h : Around t p ax u g pl k) => around_len hs ht h)
  have HPL := Lib.hid hpl
  have HCW : Hid ((cellW w c).heap.size = w.heap.size + 2) := Lib.hid (cellW_size w c)
  clear hi hp hu hps htops hs ht hpl
  obtain ⟨c0, c1, c2, c3, c4, c5, c6⟩ := c7_of L0.out.box.cat
  go_enter Tryz.func30, Tryz.ntmps30
  go_wp2_with fail
  refine HAR.out.mono ?_
  rintro e w2 ⟨d, S, g, pl, k, qa, qcap, rfl, har, hown, hnd, hpr, hb2⟩
  have L2 := Lib.hid (L0.out.up hb2)
  have HB2 := Lib.hid hb2
  have HA2 := Lib.hid har
  have HOWN := Lib.hid hown
  have HND := Lib.hid hnd
  have HPR := Lib.hid hpr
  have hlen := HLEN.out g pl k har
  have hkid := around_kid har HU.out
  have hk : k < g.kids.length := (List.getElem?_eq_some_iff.1 hkid).1
  obtain ⟨cs, Ss, row, len, slen, fine, e1, e2, e3, hS, each⟩ := hown.cases'
  have hdn : d.n = g.kids.length := by rw [← len]; exact row.row.len
  obtain ⟨gb, cap, hv, hbg, hgl⟩ := row.form (by omega)
  obtain ⟨dk, dr, di, da, dn, dc⟩ := d
  obtain rfl : da = some ⟨gb, 0, none⟩ := by simp only at hv; injection hv
  have HDN : Hid (dn = g.kids.length) := Lib.hid hdn
  have HMADE := Lib.hid (fun (g' cap' : Nat) (w4 : World) hrow4 hgr hg' => rp_made (k := k) (ls := ls) (ps := ps) (g' := g') (cap' := cap') (w4 := w4) L2.out (Nat.le_of_eq HCW.out.symm) fine e1 e2 e3 rfl row len slen hS hnd each (by simp only at hdn ⊢; omega) (by simp only at hdn ⊢; omega) HTP.out hrow4 hgr hg')
  have al2 : Below w2.heap.size w2 (w2.alloc (cbox ⟨dk, dr, di, some ⟨gb, 0, none⟩, dn, dc⟩)) := (Below.refl _ _).alloc (Nat.le_refl _) _
  have hnv : (Value.slice (some ⟨gb, 0, none⟩) dn dc) = .slice (some ⟨gb, 0, none⟩) dn dc := rfl
  have HRE := Lib.hid (replace_any cs ps dn k (cellW w c).heap.size gb dc pg (w2.alloc (cbox ⟨dk, dr, di, some ⟨gb, 0, none⟩, dn, dc⟩)) (row.up al2) (HPS.out.up (L2.out.below.trans (al2.mono L2.out.below.size))) (by have := HCW.out; omega) (by simp only at hdn; omega) (by simp only at hdn; omega))
  have X2 := Lib.hid (Box7.new w2 ⟨dk, dr, di, some ⟨gb, 0, none⟩, dn, dc⟩)
  have HGL : Hid (gb < w2.heap.size) := Lib.hid hgl
  have HGB : Hid ((cellW w c).heap.size ≤ gb) := Lib.hid hbg
  have HKK : Hid (k ≤ 20000) := Lib.hid (by omega)
  have hkb : k ≤ 20000 := by omega
  clear har hown hnd hpr hb2 row len slen fine e1 e2 e3 hS each hv hbg hgl hkid hk hdn hnv al2 c0 c1 c2 c3 c4 c5 c6 hlen
  obtain ⟨q0, q1, q2, q3, q4, q5, q6⟩ := c7_of X2.out.cat
  go_wp2_with fail
  refine HRE.out.mono ?_
  rintro e w4 ⟨g', cap', rfl, hrow4, hgr, hg'⟩
  have X4 : Hid (Box7 w4 w2.heap.size ⟨dk, dr, di, some ⟨gb, 0, none⟩, dn, dc⟩) := Lib.hid ((hgr.block _ (lt_of_block X2.out) (fun e => by have := HGL.out; cases e; omega)).trans X2.out)
  have P := Lib.hid (HMADE.out g' cap' w4 hrow4 hgr hg')
  have HB4 : Hid (Below (cellW w c).heap.size (cellW w c) w4) := Lib.hid ((HB2.out.alloc HB2.out.size _).grown hgr (Nat.le_trans HB2.out.size (by simp)) (fun m hm => by cases hm; exact HGB.out))
  clear hrow4 hgr hg' q0 q1 q2 q3 q4 q5 q6 HRE HMADE
  obtain ⟨q0, q1, q2, q3, q4, q5, q6⟩ := c7_of X4.out.cat
  have g6 := X4.out.free 6
  go_upto_region 3 with (fail)
  have HB5 : Hid (Below (cellW w c).heap.size (cellW w c) (w4.setCell ⟨w2.heap.size, 6, none⟩ (.slice (some ⟨g', 0, none⟩) (dn + 1) cap'))) := Lib.hid (HB4.out.setCell (by have := HB2.out.size; exact this) _)
  change Code.wp _ _ _ _ (w4.setCell ⟨w2.heap.size, 6, none⟩ (.slice (some ⟨g', 0, none⟩) (dn + 1) cap'))
  generalize w4.setCell ⟨w2.heap.size, 6, none⟩ (.slice (some ⟨g', 0, none⟩) (dn + 1) cap') = w5 at P HB5 ⊢
  clear q0 q1 q2 q3 q4 q5 q6 g6
  have HGR : Hid (g.r = dr) := Lib.hid P.out.is.split.2.1
  have hfi := P.out.is.fine.2.1
  have HSET := Lib.hid (fun (W : World) (h : Is W ⟨dk, dr, di, some ⟨g', 0, none⟩, dn + 1, cap'⟩ (swapK g k ls)) => set_any (sz (swapK g k ls)) (swapK g k ls) _ dr.x dr.y W (Nat.le_refl _) hfi.1 hfi.2.1 h)
  have HR5 := Lib.hid (HPR.out.up (base := base) (HB5.out))
  have HPUT := Lib.hid (fun (W : World) (y : C) (hb : Below w5.heap.size w5 W) (hy : Is W y (setT dr.x dr.y (swapK g k ls))) => putS_any t (setT dr.x dr.y (swapK g k ls)) c y (.slice qa pl.length qcap) pl W ((P.out.st.is HI.out).up hb) hy (HR5.out.1.up hb) (by have := (HLEN.out g pl k HA2.out).2; have := HPL.out; omega))
  have D0 : Hid (Below w5.heap.size w5 w5.drew) := Lib.hid (Below.refl _ _).drew
  have Dz : Hid (Below w5.heap.size w5 (w5.alloc zeroBox).drew) := Lib.hid ((Below.refl _ _).alloc (Nat.le_refl _) _).drew
  have ZZ : Hid (Zero7 (w5.alloc zeroBox).drew w5.heap.size) := Lib.hid (zero_new w5)
  have X0 := Lib.hid (P.out.up D0.out).c14
  have Xz := Lib.hid (P.out.up Dz.out).c14
  have HN1 : Hid (w.heap.size < w5.heap.size ∧ w2.heap.size < w5.heap.size ∧ w.heap.size + 1 < w5.heap.size) := Lib.hid ⟨lt_of_block P.out.st.box, lt_of_block P.out.box, lt_of_block P.out.st.zero⟩
  clear hfi
  go_wp2_with fail
  go_region_held3 (fun W => (W.cell? ⟨w.heap.size, 0, none⟩ = some (.int .u8 c.k) ∧ W.cell? ⟨w.heap.size, 1, none⟩ = some (.int .i64 c.r.x) ∧ W.cell? ⟨w.heap.size, 2, none⟩ = some (.int .i64 c.r.y) ∧ W.cell? ⟨w.heap.size, 3, none⟩ = some (.int .i64 c.r.w) ∧ W.cell? ⟨w.heap.size, 4, none⟩ = some (.int .i64 c.r.h) ∧ W.cell? ⟨w.heap.size, 5, none⟩ = some (.int .i64 c.id) ∧ W.cell? ⟨w.heap.size, 6, none⟩ = some (.slice c.a c.n c.cap)) ∧ W.cell? ⟨w2.heap.size, 0, none⟩ = some (.int .u8 dk) ∧ W.cell? ⟨w2.heap.size, 1, none⟩ = some (.int .i64 dr.x) ∧ W.cell? ⟨w2.heap.size, 2, none⟩ = some (.int .i64 dr.y) ∧ W.cell? ⟨w2.heap.size, 3, none⟩ = some (.int .i64 dr.w) ∧ W.cell? ⟨w2.heap.size, 4, none⟩ = some (.int .i64 dr.h) ∧ W.cell? ⟨w2.heap.size, 5, none⟩ = some (.int .i64 di) ∧ W.cell? ⟨w2.heap.size, 6, none⟩ = some (.slice (some ⟨g', 0, none⟩) (dn + 1) cap')) (first | with_reducible exact X0.out | with_reducible exact Xz.out | with_reducible exact X6.out | with_reducible exact X7.out | with_reducible exact X8.out | with_reducible exact c14_alloc X0.out _ | with_reducible exact c14_alloc X6.out _ | with_reducible exact c14_alloc X7.out _)
    (first
      | (go_at_call 53; (with_reducible refine (HSET.out w5.drew (P.out.up D0.out).is).mono ?_); rintro e w6 ⟨y, S6, rfl, hown, -, hb⟩; have D6 := Lib.hid (D0.out.trans (hb.mono D0.out.size)); have Y6 := Lib.hid hown.is; have X6 := Lib.hid (P.out.up D6.out).c14; have NZ := Lib.hid D6.out.size; clear hown hb)
      | (go_at_call 53; (with_reducible refine (HSET.out (w5.alloc zeroBox).drew (P.out.up Dz.out).is).mono ?_); rintro e w6 ⟨y, S6, rfl, hown, -, hb⟩; have D6 := Lib.hid (Dz.out.trans (hb.mono Dz.out.size)); have Y6 := Lib.hid hown.is; have X6 := Lib.hid (P.out.up D6.out).c14; have Z6 := Lib.hid (zero_up ZZ.out hb); have YL := Lib.hid (lt_of_block Z6.out); clear hown hb)
      | (go_at_call 52; have Z6' := Z6; (with_reducible refine (HPUT.out w6 y D6.out Y6.out).mono ?_); rintro e w7 ⟨z, rfl, hst, hb⟩; have D7 := Lib.hid (D6.out.trans (hb.mono D6.out.size)); have G7 := Lib.hid hst; have Z7 := Lib.hid (zero_up Z6.out hb); have X7 := Lib.hid (P.out.up D7.out).c14; have X8 := Lib.hid (c14_put7 (x := z) X7.out (Nat.ne_of_lt HN1.out.1) (Nat.ne_of_lt HN1.out.2.1)); obtain ⟨⟨z0, z1, z2, z3, z4, z5, z6⟩, f0, f1, f2, f3, f4, f5, f6⟩ := zero_parts Z7.out; clear hst hb)
      | (go_at_call 52; have NZ' := NZ; (with_reducible refine (HPUT.out w6 y D6.out Y6.out).mono ?_); rintro e w7 ⟨z, rfl, hst, hb⟩; have D7 := Lib.hid (D6.out.trans (hb.mono D6.out.size)); have G7 := Lib.hid hst; have X7 := Lib.hid (P.out.up D7.out).c14; clear hst hb)
      | (go_at_call 52; have NZ' := NZ; have DA := Lib.hid (D6.out.trans (((Below.refl w6.heap.size w6).alloc (Nat.le_refl _) zeroBox).mono D6.out.size)); have YA := Lib.hid (Y6.out.up ((Below.refl w6.heap.size w6).alloc (Nat.le_refl _) zeroBox)); (with_reducible refine (HPUT.out (w6.alloc zeroBox) y DA.out YA.out).mono ?_); rintro e w7 ⟨z, rfl, hst, hb⟩; have D7 := Lib.hid (DA.out.trans (hb.mono DA.out.size)); have G7 := Lib.hid hst; have Z7 := Lib.hid (zero_up (zero_new w6) hb); have X7 := Lib.hid (P.out.up D7.out).c14; have X8 := Lib.hid (c14_put7 (x := z) X7.out (Nat.ne_of_lt (Nat.lt_of_lt_of_le HN1.out.1 D6.out.size)) (Nat.ne_of_lt (Nat.lt_of_lt_of_le HN1.out.2.1 D6.out.size))); obtain ⟨⟨z0, z1, z2, z3, z4, z5, z6⟩, f0, f1, f2, f3, f4, f5, f6⟩ := zero_parts Z7.out; clear hst hb))
  all_goals (rename_i hh; clear hh)
  all_goals first
    | have Q := Lib.hid (rw_put (P.out.st.up D7.out) Z7.out HN1.out.2.2 YL.out G7.out)
    | have Q := Lib.hid (rw_put (P.out.st.up D7.out) Z7.out (Nat.lt_of_lt_of_le HN1.out.2.2 D6.out.size) (by simp) G7.out)
    | (have Q := Lib.hid (rw_new (P.out.st.up D7.out) (Nat.le_trans HN1.out.2.2 D6.out.size) G7.out); change Exit.then _ _ _ _ (w7.alloc (cbox z)); generalize w7.alloc (cbox z) = W8 at Q ⊢)
  all_goals
    try clear z0 z1 z2 z3 z4 z5 z6 f0 f1 f2 f3 f4 f5 f6
    obtain ⟨q0, q1, q2, q3, q4, q5, q6⟩ := c7_of Q.out.box.cat
    obtain ⟨⟨z0, z1, z2, z3, z4, z5, z6⟩, f0, f1, f2, f3, f4, f5, f6⟩ := zero_parts Q.out.st.zero
    have hfar := Q.out.far
    go_wp2
    (try simp only [Exit.inBlock, Exit.then])
    refine bodyPost_ret (results_cell1 rfl _ _ (w.heap.size + 1) z rfl ((Box7.of_zero Q.out.st.zero).put z)) rfl ?_
    refine ⟨z, g, pl, k, rfl, HA2.out, fun W' hW => ?_, below_put7 Q.out.st.below (by omega) z⟩
    rw [HGR.out]
    exact Q.out.is W' fun m h1 h2 => (hW m (by omega) (by rw [size_put7]; exact h2)).trans (heap_put7 (by omega))
end Go.Proofs.YtbbjnimadnbmnaaGreat
/- What both have of a size: the program's Sizes. -/
namespace Go.Proofs.YtbbjnimadnbmnaaGreat
open Go.RowKit

set_option maxRecDepth 100000 in
theorem psizes_any (s z : Int) (hs : fits s) (hz : fits z) (w : World) : Calls Tryz.prog 48 #[.int .i64 s, .int .i64 z] w (SzSays s z w) := by
  obtain ⟨a1, a2⟩ := hs
  obtain ⟨b1, b2⟩ := hz
  by_cases h1 : s < 3
  · have HN := Lib.hid (sz_no (s := s) (z := z) w (by unfold spOk; rw [decide_eq_false (by omega)]; rfl))
    have q1 : decide (s < 3) = true := decide_eq_true h1
    clear h1
    go_enter Tryz.func48, Tryz.ntmps48
    go_wp2
    go_ret3
    exact HN.out
  have q1 : decide (s < 3) = false := decide_eq_false h1
  by_cases h2 : z < 0
  · have HN := Lib.hid (sz_no (s := s) (z := z) w (by unfold spOk; rw [decide_eq_true (by omega), decide_eq_false (by omega)]; rfl))
    have q2 : decide (z < 0) = true := decide_eq_true h2
    clear h2
    go_enter Tryz.func48, Tryz.ntmps48
    go_wp2
    go_ret3
    exact HN.out
  have q2 : decide (z < 0) = false := decide_eq_false h2
  have hok : spOk s z = true := by unfold spOk; rw [decide_eq_true (by omega), decide_eq_true (by omega)]; rfl
  have e1 : (s - 1).tdiv 2 = (s - 1) / 2 := Int.tdiv_eq_ediv_of_nonneg (by omega)
  by_cases h3 : z = 0
  · subst h3
    have HN := Lib.hid (sz_yes (s := s) (z := 0) (n := (s - 1) / 2) w hok (by unfold spB; rw [if_pos rfl]; omega))
    clear hok
    go_enter Tryz.func48, Tryz.ntmps48
    go_wp2
    go_ret3
    exact HN.out
  · have q3 : decide (0 < z) = true := decide_eq_true (by omega)
    by_cases h4 : s - 2 < z
    · have HN := Lib.hid (sz_yes (s := s) (z := z) (n := s - 2) w hok (by unfold spB; rw [if_neg h3, if_pos h4]))
      have m1 : min z (s - 2) = s - 2 := by omega
      have p2 : decide (s - 2 < z) = true := decide_eq_true h4
      clear h3 hok
      go_enter Tryz.func48, Tryz.ntmps48
      go_wp2
      go_ret3
      exact HN.out
    · have HN := Lib.hid (sz_yes (s := s) (z := z) (n := z) w hok (by unfold spB; rw [if_neg h3, if_neg h4]))
      have m1 : min z (s - 2) = z := by omega
      have p2 : decide (s - 2 < z) = false := decide_eq_false h4
      clear h3 hok
      go_enter Tryz.func48, Tryz.ntmps48
      go_wp2
      go_ret3
      exact HN.out
end Go.Proofs.YtbbjnimadnbmnaaGreat
/- The elder one and the new one of a leaf: the program's halves. -/
namespace Go.Proofs.YtbbjnimadnbmnaaGreat
open Go.RowKit

/-- A leaf whose row is empty, wherever that lies. -/
abbrev emptC (r : R) (id : Int) (q : Option Addr × Nat) : C := ⟨1, r, id, q.1, 0, q.2⟩
theorem empt_is (w : World) {r : R} {id : Int} {q : Option Addr × Nat} (hr : r.fits) (hi : fits id) : Is w (emptC r id q) (.node 1 r id []) :=
  .mk (emptC r id q) [] [] (.inl ⟨_, _, rfl, rfl⟩) rfl ⟨⟨by simp, by simp⟩, hr, hi, by simp⟩ (fun j x t hx => by simp at hx)
theorem empt_of {w : World} {d : C} {r : R} {id : Int} (h : Is w d (.node 1 r id [])) : ∃ q, d = emptC r id q := by
  obtain ⟨h1, h2, h3, -, cs, -, -, h4, -⟩ := h.split
  obtain ⟨dk, dr, di, da, dn, dc⟩ := d
  simp only [T.k, T.r, T.id, T.kids, List.length_nil] at h1 h2 h3 h4
  subst h1; subst h2; subst h3; subst h4
  exact ⟨(da, dc), rfl⟩
theorem adjl_any (u : T) (d : C) (ax a s : Int) (w : World) (hs : sz u ≤ 990) (ht : tileB u = true) (hk : u.k = 1) (hax : ax = 1 ∨ ax = 2) (hss : szA u.r ax = s) (h1 : 1 ≤ a) (h2 : a ≤ s) (hi : Is w d u) :
    Calls Tryz.prog 49 #[cval d, .int .u8 ax, .int .i64 (a - s)] w fun e w' => ∃ q, e = .returned (.tuple #[cval (emptC (cutR u.r ax a) u.id q), .int .i64 0]) ∧ Below w.heap.size w w' := by
  subst hss
  have hb := szA_pos (well_rect (tile_top (show sz u ≤ 20000 by omega) ht).1) hax
  obtain ⟨e1, e2⟩ := adj_leaf hax (show sz u ≤ 20000 by omega) ht hk h1 h2
  refine (adjust_any u d ax (a - szA u.r ax) w hs hi ⟨by omega, by omega⟩).mono ?_
  rintro e w' ⟨y, rfl, hst, hbw⟩
  rw [e1]
  rw [if_pos e1, e2] at hst
  obtain ⟨q, rfl⟩ := empt_of (hst.is trivial)
  exact ⟨q, rfl, hbw⟩

set_option maxHeartbeats 1000000 in
set_option maxRecDepth 100000 in
theorem halves_no (u : T) (d : C) (ax z fresh : Int) (w : World) (hi : Is w d u) (hn : szA u.r ax < 3) (hsf : fits (szA u.r ax)) (hz : fits z) : Calls Tryz.prog 28 #[cval d, .int .u8 ax, .int .i64 z, .int .i64 fresh] w fun e w' => e = .returned (.tuple #[.slice none 0 0, .bool false]) ∧ Below w.heap.size w w' := by
  have B1 : Hid (Below w.heap.size w (w.alloc (cbox d))) := Lib.hid ((Below.refl _ _).alloc (Nat.le_refl _) _)
  have X1 := Lib.hid (Box7.new w d)
  have HS := Lib.hid (lsize_any d.r ax (w.alloc (cbox d)))
  have hdr : szA d.r ax = szA u.r ax := by rw [hi.split.2.1]
  rw [hdr] at HS
  have HZ : Hid (∀ W, Calls Tryz.prog 48 #[.int .i64 (szA u.r ax), .int .i64 z] W fun e w' => e = .returned (.tuple #[.int .i64 0, .int .i64 0, .bool false]) ∧ w' = W) := Lib.hid fun W => (psizes_any (szA u.r ax) z hsf hz W).mono fun e w' h => by
    obtain ⟨h1, h2⟩ := h
    refine ⟨h2.trans (if_neg ?_), h1⟩
    unfold spOk
    rw [decide_eq_false (by omega)]
    simp
  clear hi hsf hz hn hdr
  generalize szA u.r ax = s at HS HZ
  obtain ⟨c0, c1, c2, c3, c4, c5, c6⟩ := c7_of X1.out.cat
  go_enter Tryz.func28, Tryz.ntmps28
  go_wp2_with fail
  refine HS.out.mono ?_
  rintro e w1 ⟨rfl, hb1⟩
  have B2 := Lib.hid (B1.out.trans (hb1.mono B1.out.size))
  clear hb1 c0 c1 c2 c3 c4 c5 c6
  go_wp2_with fail
  refine (HZ.out w1).mono ?_
  rintro e w2 ⟨rfl, hw2⟩
  rw [hw2]
  clear hw2 w2
  go_wp2
  go_ret2
  exact ⟨rfl, B2.out⟩

set_option maxHeartbeats 2000000 in
set_option maxRecDepth 100000 in
theorem halves_yes (u : T) (d : C) (ax z fresh : Int) (w : World) (hs : sz u ≤ 990) (ht : tileB u = true) (hk : u.k = 1) (hax : ax = 1 ∨ ax = 2) (hi : Is w d u) (h3 : 3 ≤ szA u.r ax) (hz0 : 0 ≤ z) (hz : fits z) : Calls Tryz.prog 28 #[cval d, .int .u8 ax, .int .i64 z, .int .i64 fresh] w fun e w' => ∃ g q1 q2, e = .returned (.tuple #[.slice (some ⟨g, 0, none⟩) 2 2, .bool true]) ∧ OwnC w' w.heap.size (.slice (some ⟨g, 0, none⟩) 2 2) [emptC (cutR u.r ax (szA u.r ax - 1 - spB (szA u.r ax) z)) u.id q1, emptC (cutR u.r ax (spB (szA u.r ax) z)) fresh q2] ∧ Below w.heap.size w w' := by
  have B1 : Hid (Below w.heap.size w (w.alloc (cbox d))) := Lib.hid ((Below.refl _ _).alloc (Nat.le_refl _) _)
  have X1 := Lib.hid (Box7.new w d)
  have hb := szA_pos (well_rect (tile_top (show sz u ≤ 20000 by omega) ht).1) hax
  have hsp := spB_in h3 hz0
  have HS := Lib.hid (lsize_any d.r ax (w.alloc (cbox d)))
  have hdr : szA d.r ax = szA u.r ax := by rw [hi.split.2.1]
  rw [hdr] at HS
  obtain ⟨n, hn⟩ : ∃ n, spB (szA u.r ax) z = n := ⟨_, rfl⟩
  obtain ⟨s, hss⟩ : ∃ s, szA u.r ax = s := ⟨_, rfl⟩
  obtain ⟨m, hm⟩ : ∃ m, s - 1 - n = m := ⟨_, rfl⟩
  have HZ : Hid (∀ W, Calls Tryz.prog 48 #[.int .i64 s, .int .i64 z] W fun e w' => e = .returned (.tuple #[.int .i64 m, .int .i64 n, .bool true]) ∧ w' = W) := Lib.hid fun W => by
    refine (psizes_any s z ⟨by omega, by omega⟩ hz W).mono fun e w' h => ?_
    obtain ⟨h1, h2⟩ := h
    refine ⟨h2.trans ((if_pos ?_).trans ?_), h1⟩
    · unfold spOk
      rw [decide_eq_true (by omega), decide_eq_true (by omega)]
      rfl
    · rw [← hss, hn, hss, hm]
  have HA1 := Lib.hid (fun W (h : Is W d u) => adjl_any u d ax m s W hs ht hk hax hss (by omega) (by omega) h)
  have HA2 := Lib.hid (fun W (h : Is W d u) => adjl_any u d ax n s W hs ht hk hax hss (by omega) (by omega) h)
  rw [hn, hss, hm]
  rw [hss] at HS
  have wm : IntKind.i64.wrap (m - s) = m - s := wrap_id (by omega)
  have wn : IntKind.i64.wrap (n - s) = n - s := wrap_id (by omega)
  have HI := Lib.hid hi
  clear hi hs ht hk hax h3 hz0 hz hb hsp hn hss hm hdr
  obtain ⟨c0, c1, c2, c3, c4, c5, c6⟩ := c7_of X1.out.cat
  go_enter Tryz.func28, Tryz.ntmps28
  go_wp2_with fail
  refine HS.out.mono ?_
  rintro e w1 ⟨rfl, hb1⟩
  have B2 := Lib.hid (B1.out.trans (hb1.mono B1.out.size))
  have X2 := Lib.hid (X1.out.up hb1)
  clear hb1 c0 c1 c2 c3 c4 c5 c6 HS
  go_wp2_with fail
  refine (HZ.out w1).mono ?_
  rintro e w2 ⟨rfl, hw2⟩
  rw [hw2]
  clear hw2 w2
  obtain ⟨c0, c1, c2, c3, c4, c5, c6⟩ := c7_of X2.out.cat
  go_wp2_with fail
  refine (HA1.out w1 (HI.out.up B2.out)).mono ?_
  rintro e w3 ⟨q1, rfl, hb3⟩
  have BN : Below w3.heap.size w3 (w3.alloc (cbox (emptC (cutR u.r ax m) u.id q1))) := (Below.refl _ _).alloc (Nat.le_refl _) _
  have B3 := Lib.hid (B2.out.trans ((hb3.trans (BN.mono hb3.size)).mono B2.out.size))
  have X3 := Lib.hid ((X2.out.up hb3).up BN)
  have E3 := Lib.hid (Box7.new w3 (emptC (cutR u.r ax m) u.id q1))
  clear hb3 BN c0 c1 c2 c3 c4 c5 c6 HA1 X2
  obtain ⟨c0, c1, c2, c3, c4, c5, c6⟩ := c7_of X3.out.cat
  go_wp2_with fail
  refine (HA2.out _ (HI.out.up B3.out)).mono ?_
  rintro e w4 ⟨q2, rfl, hb4⟩
  have BN : Below w4.heap.size w4 (w4.alloc (cbox (emptC (cutR u.r ax n) fresh q2))) := (Below.refl _ _).alloc (Nat.le_refl _) _
  have B4 := Lib.hid (B3.out.trans ((hb4.trans (BN.mono hb4.size)).mono B3.out.size))
  have E4 := Lib.hid ((E3.out.up hb4).up BN)
  have HL : Hid (w3.heap.size < w4.heap.size) := Lib.hid (by have := hb4.size; simp at this; omega)
  clear hb4 BN c0 c1 c2 c3 c4 c5 c6 HA2 X3
  obtain ⟨c0, c1, c2, c3, c4, c5, c6⟩ := c7_of E4.out.cat
  have hlt := HL.out
  go_wp2
  go_ret2
  refine ⟨_, q1, q2, rfl, ?_, B4.out.alloc B4.out.size _⟩
  have hp := pair_own (w4.alloc (cbox (emptC (cutR u.r ax n) fresh q2))) w.heap.size B4.out.size (emptC (cutR u.r ax m) u.id q1) (emptC (cutR u.r ax n) fresh q2)
  simpa using hp
end Go.Proofs.YtbbjnimadnbmnaaGreat
