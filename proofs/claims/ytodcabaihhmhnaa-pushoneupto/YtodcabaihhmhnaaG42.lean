/- Texts of this seat, 3 in one file. -/
import Derived.Test.YtodcabaihhmhnaaG41
import Derived.Test.YtodcabaihhmhnaaG29
import Derived.Test.YtodcabaihhmhnaaG19
/- resized: a tree of givers, adjusted. -/
namespace Go.Proofs.Ytodcabaihhmhnaa
open Go.RowKit Sh

structure RSt (w w3 : World) (x : G) (W : World) : Prop where
  below : Below w.heap.size w W
  box : Box9 W w.heap.size x
  zero : Zero7 W (w.heap.size + 1)
  keep : ∀ (a : Addr) (v : Value), w3.cell? a = some v → a ≠ ⟨w.heap.size, 6, none⟩ → W.cell? a = some v
  far : w.heap.size + 2 ≤ w3.heap.size
  size : w3.heap.size ≤ W.heap.size
theorem RSt.up {w w3 W W' : World} {x : G} (h : RSt w w3 x W) (hb : Below W.heap.size W W') : RSt w w3 x W' :=
  ⟨h.below.trans (hb.mono h.below.size), h.box.up hb, zero_up h.zero hb, fun a v ha hn => (hb.cell (lt_of_cell (h.keep a v ha hn))).trans (h.keep a v ha hn), h.far, Nat.le_trans h.size hb.size⟩
theorem RSt.upB {w w3 W W' : World} {x : G} (h : RSt w w3 x W) (hb : Below w3.heap.size W W') : RSt w w3 x W' := by
  have hf := h.far
  exact ⟨h.below.trans (hb.mono (by omega)), (hb.block _ (by omega)).trans h.box, (hb.block _ (by omega)).trans h.zero, fun a v ha hn => (hb.cell (lt_of_cell ha)).trans (h.keep a v ha hn), h.far, Nat.le_trans h.size hb.size⟩
theorem RSt.row {w w3 W : World} {x : G} (h : RSt w w3 x W) (a : Option Addr) (n cap : Nat) : RSt w w3 ⟨⟨x.c.k, x.c.r, x.c.id, a, n, cap⟩, x.g, x.a, x.n, x.cap⟩ (W.setCell ⟨w.heap.size, 6, none⟩ (.slice a n cap)) :=
  ⟨h.below.setCell (Nat.le_refl _) _, h.box.row a n cap, (Below.heap_setCell W ⟨w.heap.size, 6, none⟩ _ _ (by show w.heap.size + 1 ≠ w.heap.size; omega)).trans h.zero, fun b v hb hn => by
    rw [World.cell?_setCell_other _ _ _ _ (fun e => hn e.symm)]
    exact h.keep b v hb hn, h.far, by have := h.size; simpa [World.setCell] using this⟩
theorem Grove.kept {E : World → Prop} {w w2 : World} {base : Nat} {v : Value} {cs : List C} {l : List T} (h : Grove E w base v cs l) (hs : w.heap.size ≤ w2.heap.size) (hk : ∀ k, base ≤ k → k < w.heap.size → w2.heap[k]? = w.heap[k]?) : Grove E w2 base v cs l :=
  ⟨ownC_kept h.row fun g hg => hk g (own_block h.row hg).1 (own_block h.row hg).2, h.len, fun j x t hx ht => by
    obtain ⟨lo, hi, a1, a2, a3, a4⟩ := h.each j x t hx ht
    exact ⟨lo, hi, a1, Nat.le_trans a2 hs, a3, a4.move fun k hl hh => hk k (by omega) (by omega)⟩⟩
abbrev S10 (n : Nat) (y : G) (b o : Nat) (m : Int) (W : World) : Prop := (W.cell? ⟨n, 0, none⟩ = some (.int .u8 y.c.k) ∧ W.cell? ⟨n, 1, none⟩ = some (.int .i64 y.c.r.x) ∧ W.cell? ⟨n, 2, none⟩ = some (.int .i64 y.c.r.y) ∧ W.cell? ⟨n, 3, none⟩ = some (.int .i64 y.c.r.w) ∧ W.cell? ⟨n, 4, none⟩ = some (.int .i64 y.c.r.h) ∧ W.cell? ⟨n, 5, none⟩ = some (.int .i64 y.c.id) ∧ W.cell? ⟨n, 6, none⟩ = some (.slice y.c.a y.c.n y.c.cap) ∧ W.cell? ⟨n, 7, none⟩ = some (.int .i64 y.g) ∧ W.cell? ⟨n, 8, none⟩ = some (.slice y.a y.n y.cap)) ∧ W.cell? ⟨b, o, none⟩ = some (.int .i64 m)
theorem s10_of {n : Nat} {y : G} {b o : Nat} {m : Int} {W : World} (h : Box9 W n y) (hc : W.cell? ⟨b, o, none⟩ = some (.int .i64 m)) : S10 n y b o m W := ⟨(g9_parts h).1, hc⟩
theorem rs_end {w w3 W : World} {k : Int} {r : R} {id xg : Int} {a xa : Option Addr} {cap xn xcap : Nat} {cs : List C} {l : List T} {t' : T} (he : t' = .node k r id l) (h : RSt w w3 ⟨⟨k, r, id, a, cs.length, cap⟩, xg, xa, xn, xcap⟩ W) (hg : Grove (fun _ => True) W w3.heap.size (.slice a cs.length cap) cs l) (hk : 0 ≤ k ∧ k ≤ 255) (hr : r.fits) (hi : fits id) (hl : l.length ≤ 1954687338211) :
    GrSays (fun _ => True) t' w (.returned (cval ⟨k, r, id, a, cs.length, cap⟩)) (put7 W (w.heap.size + 1) ⟨k, r, id, a, cs.length, cap⟩) := by
  subst he
  have hf := h.far
  refine ⟨_, rfl, ?_, below_put7 h.below (by omega) _⟩
  rw [size_put7]
  exact ((hg.tree (k := k) (r := r) (id := id) hk hr hi hl).move (w2 := put7 W (w.heap.size + 1) ⟨k, r, id, a, cs.length, cap⟩) fun j hj _ => heap_put7 (by omega)).wide (by omega) (Nat.le_refl _)

set_option maxHeartbeats 4000000 in
set_option maxRecDepth 100000 in
theorem resized1_any (N : Nat) : ∀ (t : T) (x : G) (b : Int) (w : World), sz t ≤ N → sz t ≤ 990 → tileB t = true → canB 1 b t → IsG w 1 x t → Calls Try.prog 79 #[gval x, .int .u8 1, .int .i64 b] w (GrSays (fun _ => True) (adjT 1 b t) w) := by
  induction N with
  | zero => intro t x b w h; have := sz_pos t; omega
  | succ N ih =>
    intro t x b w hs hm ht hb hi
    have hax : (1 : Int) = 1 ∨ (1 : Int) = 2 := by decide
    have hrf := adjR_in hax (by omega) ht hb
    have hfn : t.kids.length ≤ 990 := by have := sz_node t; have := szL_len t.kids; omega
    have HE := Lib.hid (adjT_eq 1 b t)
    have HCAN : Hid (∀ (j : Nat) (u : T), t.kids[j]? = some u → (alB t.k 1 = true → ∃ l, ShIs b (t.kids.map (gvT 1)) l) → canB 1 (shF t.k 1 b (t.kids.map (gvT 1)) j) u) := Lib.hid fun j u hj hsh => can_kid hax (by omega) ht hb hj hsh
    have HTK : Hid (∀ (j : Nat) (u : T), t.kids[j]? = some u → tileB u = true) := Lib.hid fun j u hj => tile_kid (by have := sz_kid hj; omega) ht hj
    obtain ⟨e1, e2, e3, hfine, ⟨h1, h2, h3⟩, hg, gs, hrow, hlen, hn, heach⟩ := hi.split
    obtain ⟨⟨ck, cr, cid, ca, cn, ccap⟩, xg, xa, xn, xcap⟩ := x
    simp only at e1 e2 e3 h1 h2 h3 hn
    subst h1 h2 h3 hn
    rw [e2] at hrf
    obtain ⟨hrf, hw1, hw2, hh1, hh2⟩ := hrf
    have hwrap : IntKind.i64.wrap (cr.w + b) = cr.w + b := wrap_id (by omega)
    have HRF : Hid ((⟨cr.x, cr.y, cr.w + b, cr.h⟩ : R).fits) := Lib.hid hrf
    have HFINE := Lib.hid hfine
    have hb0 : Below w.heap.size w ((w.alloc (gbox ⟨⟨ck, ⟨cr.x, cr.y, cr.w + b, cr.h⟩, cid, none, 0, 0⟩, xg, xa, t.kids.length, xcap⟩)).alloc zeroBox) := ((Below.refl _ _).alloc (Nat.le_refl _) _).alloc (by simp) _
    have HB0 := Lib.hid hb0
    have HSH := Lib.hid (gshares_any 1 b hax t ⟨⟨ck, ⟨cr.x, cr.y, cr.w + b, cr.h⟩, cid, none, 0, 0⟩, xg, xa, t.kids.length, xcap⟩ ((w.alloc (gbox ⟨⟨ck, ⟨cr.x, cr.y, cr.w + b, cr.h⟩, cid, none, 0, 0⟩, xg, xa, t.kids.length, xcap⟩)).alloc zeroBox) hm ht hb ⟨e1, ⟨rfl, rfl, rfl⟩, gs, hrow.up hb0, hlen, rfl, fun j y u hy hu => (heach j y u hy hu).split.2.2.2.2.2.1⟩)
    have BX : Hid (Box9 ((w.alloc (gbox ⟨⟨ck, ⟨cr.x, cr.y, cr.w + b, cr.h⟩, cid, none, 0, 0⟩, xg, xa, t.kids.length, xcap⟩)).alloc zeroBox) w.heap.size ⟨⟨ck, ⟨cr.x, cr.y, cr.w + b, cr.h⟩, cid, none, 0, 0⟩, xg, xa, t.kids.length, xcap⟩) := Lib.hid ((Box9.new w ⟨⟨ck, ⟨cr.x, cr.y, cr.w + b, cr.h⟩, cid, none, 0, 0⟩, xg, xa, t.kids.length, xcap⟩).up ((Below.refl _ _).alloc (Nat.le_refl _) _))
    have ZX : Hid (Zero7 ((w.alloc (gbox ⟨⟨ck, ⟨cr.x, cr.y, cr.w + b, cr.h⟩, cid, none, 0, 0⟩, xg, xa, t.kids.length, xcap⟩)).alloc zeroBox) (w.heap.size + 1)) := Lib.hid (by
      have := zero_new (w.alloc (gbox ⟨⟨ck, ⟨cr.x, cr.y, cr.w + b, cr.h⟩, cid, none, 0, 0⟩, xg, xa, t.kids.length, xcap⟩))
      simpa using this)
    have SW : Hid (((w.alloc (gbox ⟨⟨ck, ⟨cr.x, cr.y, cr.w + b, cr.h⟩, cid, none, 0, 0⟩, xg, xa, t.kids.length, xcap⟩)).alloc zeroBox).heap.size = w.heap.size + 2) := Lib.hid (by simp)
    have HROW := Lib.hid hrow
    have HLEN := Lib.hid hlen
    have HEACH := Lib.hid heach
    have HS := Lib.hid hs
    have HM := Lib.hid hm
    have HIH := Lib.hid ih
    have HK1 := Lib.hid e1
    have HK2 := Lib.hid e2
    have HK3 := Lib.hid e3
    clear hs hm ht hb hi ih hrow hlen heach hg hfine hb0 hax hrf e1 e2 e3
    go_enter Try.func79, Try.ntmps79
    go_wp2_with fail
    refine HSH.out.mono ?_
    rintro e w3 ⟨hex, v3, l3, rfl, hrow3, hlen3, hsv, hb3⟩
    have HEX := Lib.hid hex
    generalize hF : shF t.k 1 b (t.kids.map (gvT 1)) = F at hsv HCAN
    have HEF : Hid (adjT 1 b t = .node ck ⟨cr.x, cr.y, cr.w + b, cr.h⟩ cid (adjL 1 F t.kids)) := Lib.hid (by rw [HE.out, hF, HK1.out, HK2.out, HK3.out]; rfl)
    have HSV := Lib.hid hsv
    have HR3 := Lib.hid hrow3
    have HL3 := Lib.hid hlen3
    have ST3 : Hid (RSt w w3 ⟨⟨ck, ⟨cr.x, cr.y, cr.w + b, cr.h⟩, cid, none, 0, 0⟩, xg, xa, t.kids.length, xcap⟩ w3) := Lib.hid ⟨HB0.out.trans (hb3.mono HB0.out.size), BX.out.up hb3, zero_up ZX.out hb3, fun a v ha _ => ha, by have := hb3.size; have := SW.out; omega, Nat.le_refl _⟩
    obtain ⟨a3, cap3, rfl⟩ := row_shape hrow3
    clear hex hsv hrow3 hlen3 hb3 hF HSH
    obtain ⟨⟨s0, s1, s2, s3, s4, s5, s6, s7, s8⟩, -⟩ := g9_parts ST3.out.box
    have h63 := Lib.hid s6
    go_wp2
    go_loopg [37] (t.kids.length + 1) (fun g i wr => ∃ (k : Nat) (cs : List C) (a : Option Addr) (cap : Nat), g + k = t.kids.length + 1 ∧ k ≤ t.kids.length ∧ i = .int .i64 k ∧ RSt w w3 ⟨⟨ck, ⟨cr.x, cr.y, cr.w + b, cr.h⟩, cid, a, cs.length, cap⟩, xg, xa, t.kids.length, xcap⟩ wr ∧ Grove (fun _ => True) wr w3.heap.size (.slice a cs.length cap) cs (adjL 1 F (t.kids.take k)))
    case atStart => exact ⟨0, [], none, 0, by omega, by omega, rfl, ST3.out, by simpa [adjL] using Grove.nil (fun _ => True) w3 w3.heap.size⟩
    case round =>
      clear s0 s1 s2 s3 s4 s5 s6 s7 s8
      obtain ⟨k, cs, a, cap, hg, hk, rfl, hst, hgr⟩ := hrel
      have HG := Lib.hid hg
      have HW := Lib.hid hst
      have HF := Lib.hid hgr
      clear hg hst hgr
      by_cases hlt : k < t.kids.length
      · have hlti : (k : Int) < (t.kids.length : Int) := by omega
        have hltl : k < l3.length := by rw [HL3.out]; exact hlt
        obtain ⟨b3, o3, rfl, hf⟩ := HROW.out.place (by rw [HLEN.out]; omega)
        obtain ⟨u, hu⟩ : ∃ u, t.kids[k]? = some u := ⟨_, List.getElem?_eq_getElem hlt⟩
        obtain ⟨y, hy⟩ : ∃ y, gs[k]? = some y := ⟨_, List.getElem?_eq_getElem (by rw [HLEN.out]; exact hlt)⟩
        obtain ⟨aa3, cap3', he3, h03, hc3⟩ := HR3.out
        rw [ints_length] at he3
        have haa : a3 = aa3 := by cases he3; rfl
        subst haa
        obtain ⟨b4, o4, rfl, hcell4⟩ := row_at h03 hc3 (by rw [ints_length]; omega)
        have hc4 := hcell4 k (.int .i64 (F k)) (by unfold ints; rw [List.getElem?_map, HSV.out k hlt]; rfl)
        have hne4 : (⟨b4, o4 + k, none⟩ : Addr) ≠ ⟨w.heap.size, 6, none⟩ := fun e => by rw [e, h63.out] at hc4; cases hc4
        have HC4 : Hid (∀ W x', RSt w w3 x' W → W.cell? ⟨b4, o4 + k, none⟩ = some (.int .i64 (F k))) := Lib.hid fun W x' h => h.keep _ _ hc4 hne4
        have HN4 := Lib.hid hne4
        have hba : Below wr.heap.size wr (wr.alloc (gbox y)).drew := ((Below.refl _ _).alloc (Nat.le_refl _) _).drew
        have HBA := Lib.hid hba
        have ST1 := Lib.hid (HW.out.up hba)
        have KB1 : Hid (Box9 (wr.alloc (gbox y)).drew wr.heap.size y) := Lib.hid (Box9.new wr y)
        have X0 := Lib.hid (s10_of KB1.out (HC4.out _ _ ST1.out))
        have HK := Lib.hid (HIH.out u y (F k) (wr.alloc (gbox y)).drew (by have := HS.out; have := sz_kid hu; omega) (by have := HM.out; have := sz_kid hu; omega) (HTK.out k u hu) (HCAN.out k u hu HEX.out) ((HEACH.out k y u hy hu).up ST1.out.below))
        have HST := Lib.hid (adjL_step (ax := 1) (s := F) hu)
        have HLC := Lib.hid (show cs.length + 1 ≤ 1954687338211 by have := HF.out.len; rw [adjL_len, List.length_take] at this; omega)
        have HOB : Hid (∀ g, (Value.slice a cs.length cap).ownBlock = some g → g < wr.heap.size) := Lib.hid fun g hg => (own_block HF.out.row hg).2
        obtain ⟨c0, c1, c2, c3, c4, c5, c6, c7, c8⟩ := g9_up (hf k y hy) HW.out.below
        have q6 := (g9_parts ST1.out.box).1.2.2.2.2.2.2.1
        clear hf hu hy hcell4 h03 hc3 he3 hc4 hne4 hba
        go_wp2_with fail
        obtain ⟨⟨k0, k1, k2, k3, k4, k5, k6, k7, k8⟩, -⟩ := g9_parts KB1.out
        have r4 := HC4.out _ _ ST1.out
        go_region_law (
          first
          | (refine step_append_cell rfl _ _ rfl w3.heap.size (.slice a cs.length cap) _ cs d rfl OW5.out rfl (OwnC.one w4 0 (Nat.zero_le _) d).row HLC.out wr (((HBA.out.trans (HB4.out.mono HBA.out.size)).trans (HA5.out.mono (Nat.le_trans HBA.out.size HB4.out.size))).mono HW.out.size) HW.out.size ?_
             intro g6 cap6 w6 hown6 hb6 hgr6 hpl6
             have ST6 := Lib.hid (HW.out.upB hb6)
             have HF6 := Lib.hid (HF.out.one (HBA.out.trans (HB4.out.mono HBA.out.size)) HA5.out HW.out.size (G4.out.wide HBA.out.size (Nat.le_refl _)) (by rw [List.length_append]; exact hown6) hgr6 hpl6)
             have e6 := ST6.out.box.free 6
             have p6 := (g9_parts ST6.out.box).1.2.2.2.2.2.2.1
             clear hown6 hb6 hgr6 hpl6)
          | (go_simp; go_at_call 79; (refine HK.out.mono ?_); rintro e w4 ⟨d, rfl, hst4, hb4⟩; have ST4 := Lib.hid (ST1.out.up hb4); have G4 := Lib.hid hst4; have HB4 := Lib.hid hb4; have q64 := (g9_parts ST4.out.box).1.2.2.2.2.2.2.1; have HA5 : Hid (Below w4.heap.size w4 (w4.alloc (cbox d))) := Lib.hid ((Below.refl _ _).alloc (Nat.le_refl _) _); have q65 := (g9_parts (ST4.out.up HA5.out).box).1.2.2.2.2.2.2.1; have OW5 := Lib.hid (HF.out.row.up ((HBA.out.trans (hb4.mono HBA.out.size)).trans (HA5.out.mono (Nat.le_trans HBA.out.size hb4.size)))); clear hst4 hb4))
        all_goals
          (try simp only [Exit.inBlock, Exit.then])
          go_wp2
          go_roundg (gk - 1)
          case measure => have := HG.out; omega
          case rel =>
            refine ⟨k + 1, cs ++ [d], some ⟨g6, 0, none⟩, cap6, by have := HG.out; omega, by omega, by go_num, ?_, ?_⟩
            · simpa using ST6.out.row (some ⟨g6, 0, none⟩) (cs.length + 1) cap6
            · rw [HST.out]
              have h7 := HF6.out.kept (w2 := w6.setCell ⟨w.heap.size, 6, none⟩ (.slice (some ⟨g6, 0, none⟩) (cs.length + 1) cap6)) (by simp [World.setCell]) fun j hj _ => Below.heap_setCell w6 ⟨w.heap.size, 6, none⟩ _ j (by show j ≠ w.heap.size; have := HW.out.far; omega)
              simpa using h7
      · obtain rfl : k = t.kids.length := by omega
        have hkl : ((t.kids.length : Int) < (t.kids.length : Int)) = False := by simp
        have HFA : Hid (Grove (fun _ => True) wr w3.heap.size (.slice a cs.length cap) cs (adjL 1 F t.kids)) := Lib.hid (by have h := HF.out; rw [List.take_length] at h; exact h)
        obtain ⟨⟨s0, s1, s2, s3, s4, s5, s6, s7, s8⟩, -⟩ := g9_parts HW.out.box
        obtain ⟨⟨z0, z1, z2, z3, z4, z5, z6⟩, f0, f1, f2, f3, f4, f5, f6⟩ := zero_parts HW.out.zero
        go_wp2
        (try simp only [Exit.inBlock, Exit.then])
        refine bodyPost_ret (results_cell1 rfl _ _ (w.heap.size + 1) ⟨ck, ⟨cr.x, cr.y, cr.w + b, cr.h⟩, cid, a, cs.length, cap⟩ rfl ((Box7.of_zero HW.out.zero).put ⟨ck, ⟨cr.x, cr.y, cr.w + b, cr.h⟩, cid, a, cs.length, cap⟩)) rfl ?_
        exact rs_end HEF.out HW.out HFA.out HFINE.out.1 HRF.out HFINE.out.2.2.1 (by rw [adjL_len]; omega)
end Go.Proofs.Ytodcabaihhmhnaa
/- resized, along the other axis. -/
namespace Go.Proofs.Ytodcabaihhmhnaa
open Go.RowKit Sh

set_option maxHeartbeats 4000000 in
set_option maxRecDepth 100000 in
theorem resized2_any (N : Nat) : ∀ (t : T) (x : G) (b : Int) (w : World), sz t ≤ N → sz t ≤ 990 → tileB t = true → canB 2 b t → IsG w 2 x t → Calls Try.prog 79 #[gval x, .int .u8 2, .int .i64 b] w (GrSays (fun _ => True) (adjT 2 b t) w) := by
  induction N with
  | zero => intro t x b w h; have := sz_pos t; omega
  | succ N ih =>
    intro t x b w hs hm ht hb hi
    have hax : (2 : Int) = 1 ∨ (2 : Int) = 2 := by decide
    have hrf := adjR_in hax (by omega) ht hb
    have hfn : t.kids.length ≤ 990 := by have := sz_node t; have := szL_len t.kids; omega
    have HE := Lib.hid (adjT_eq 2 b t)
    have HCAN : Hid (∀ (j : Nat) (u : T), t.kids[j]? = some u → (alB t.k 2 = true → ∃ l, ShIs b (t.kids.map (gvT 2)) l) → canB 2 (shF t.k 2 b (t.kids.map (gvT 2)) j) u) := Lib.hid fun j u hj hsh => can_kid hax (by omega) ht hb hj hsh
    have HTK : Hid (∀ (j : Nat) (u : T), t.kids[j]? = some u → tileB u = true) := Lib.hid fun j u hj => tile_kid (by have := sz_kid hj; omega) ht hj
    obtain ⟨e1, e2, e3, hfine, ⟨h1, h2, h3⟩, hg, gs, hrow, hlen, hn, heach⟩ := hi.split
    obtain ⟨⟨ck, cr, cid, ca, cn, ccap⟩, xg, xa, xn, xcap⟩ := x
    simp only at e1 e2 e3 h1 h2 h3 hn
    subst h1 h2 h3 hn
    rw [e2] at hrf
    obtain ⟨hrf, hw1, hw2, hh1, hh2⟩ := hrf
    have hwrap : IntKind.i64.wrap (cr.h + b) = cr.h + b := wrap_id (by omega)
    have HRF : Hid ((⟨cr.x, cr.y, cr.w, cr.h + b⟩ : R).fits) := Lib.hid hrf
    have HFINE := Lib.hid hfine
    have hb0 : Below w.heap.size w ((w.alloc (gbox ⟨⟨ck, ⟨cr.x, cr.y, cr.w, cr.h + b⟩, cid, none, 0, 0⟩, xg, xa, t.kids.length, xcap⟩)).alloc zeroBox) := ((Below.refl _ _).alloc (Nat.le_refl _) _).alloc (by simp) _
    have HB0 := Lib.hid hb0
    have HSH := Lib.hid (gshares_any 2 b hax t ⟨⟨ck, ⟨cr.x, cr.y, cr.w, cr.h + b⟩, cid, none, 0, 0⟩, xg, xa, t.kids.length, xcap⟩ ((w.alloc (gbox ⟨⟨ck, ⟨cr.x, cr.y, cr.w, cr.h + b⟩, cid, none, 0, 0⟩, xg, xa, t.kids.length, xcap⟩)).alloc zeroBox) hm ht hb ⟨e1, ⟨rfl, rfl, rfl⟩, gs, hrow.up hb0, hlen, rfl, fun j y u hy hu => (heach j y u hy hu).split.2.2.2.2.2.1⟩)
    have BX : Hid (Box9 ((w.alloc (gbox ⟨⟨ck, ⟨cr.x, cr.y, cr.w, cr.h + b⟩, cid, none, 0, 0⟩, xg, xa, t.kids.length, xcap⟩)).alloc zeroBox) w.heap.size ⟨⟨ck, ⟨cr.x, cr.y, cr.w, cr.h + b⟩, cid, none, 0, 0⟩, xg, xa, t.kids.length, xcap⟩) := Lib.hid ((Box9.new w ⟨⟨ck, ⟨cr.x, cr.y, cr.w, cr.h + b⟩, cid, none, 0, 0⟩, xg, xa, t.kids.length, xcap⟩).up ((Below.refl _ _).alloc (Nat.le_refl _) _))
    have ZX : Hid (Zero7 ((w.alloc (gbox ⟨⟨ck, ⟨cr.x, cr.y, cr.w, cr.h + b⟩, cid, none, 0, 0⟩, xg, xa, t.kids.length, xcap⟩)).alloc zeroBox) (w.heap.size + 1)) := Lib.hid (by
      have := zero_new (w.alloc (gbox ⟨⟨ck, ⟨cr.x, cr.y, cr.w, cr.h + b⟩, cid, none, 0, 0⟩, xg, xa, t.kids.length, xcap⟩))
      simpa using this)
    have SW : Hid (((w.alloc (gbox ⟨⟨ck, ⟨cr.x, cr.y, cr.w, cr.h + b⟩, cid, none, 0, 0⟩, xg, xa, t.kids.length, xcap⟩)).alloc zeroBox).heap.size = w.heap.size + 2) := Lib.hid (by simp)
    have HROW := Lib.hid hrow
    have HLEN := Lib.hid hlen
    have HEACH := Lib.hid heach
    have HS := Lib.hid hs
    have HM := Lib.hid hm
    have HIH := Lib.hid ih
    have HK1 := Lib.hid e1
    have HK2 := Lib.hid e2
    have HK3 := Lib.hid e3
    clear hs hm ht hb hi ih hrow hlen heach hg hfine hb0 hax hrf e1 e2 e3
    go_enter Try.func79, Try.ntmps79
    go_wp2_with fail
    refine HSH.out.mono ?_
    rintro e w3 ⟨hex, v3, l3, rfl, hrow3, hlen3, hsv, hb3⟩
    have HEX := Lib.hid hex
    generalize hF : shF t.k 2 b (t.kids.map (gvT 2)) = F at hsv HCAN
    have HEF : Hid (adjT 2 b t = .node ck ⟨cr.x, cr.y, cr.w, cr.h + b⟩ cid (adjL 2 F t.kids)) := Lib.hid (by rw [HE.out, hF, HK1.out, HK2.out, HK3.out]; rfl)
    have HSV := Lib.hid hsv
    have HR3 := Lib.hid hrow3
    have HL3 := Lib.hid hlen3
    have ST3 : Hid (RSt w w3 ⟨⟨ck, ⟨cr.x, cr.y, cr.w, cr.h + b⟩, cid, none, 0, 0⟩, xg, xa, t.kids.length, xcap⟩ w3) := Lib.hid ⟨HB0.out.trans (hb3.mono HB0.out.size), BX.out.up hb3, zero_up ZX.out hb3, fun a v ha _ => ha, by have := hb3.size; have := SW.out; omega, Nat.le_refl _⟩
    obtain ⟨a3, cap3, rfl⟩ := row_shape hrow3
    clear hex hsv hrow3 hlen3 hb3 hF HSH
    obtain ⟨⟨s0, s1, s2, s3, s4, s5, s6, s7, s8⟩, -⟩ := g9_parts ST3.out.box
    have h63 := Lib.hid s6
    go_wp2
    go_loopg [37] (t.kids.length + 1) (fun g i wr => ∃ (k : Nat) (cs : List C) (a : Option Addr) (cap : Nat), g + k = t.kids.length + 1 ∧ k ≤ t.kids.length ∧ i = .int .i64 k ∧ RSt w w3 ⟨⟨ck, ⟨cr.x, cr.y, cr.w, cr.h + b⟩, cid, a, cs.length, cap⟩, xg, xa, t.kids.length, xcap⟩ wr ∧ Grove (fun _ => True) wr w3.heap.size (.slice a cs.length cap) cs (adjL 2 F (t.kids.take k)))
    case atStart => exact ⟨0, [], none, 0, by omega, by omega, rfl, ST3.out, by simpa [adjL] using Grove.nil (fun _ => True) w3 w3.heap.size⟩
    case round =>
      clear s0 s1 s2 s3 s4 s5 s6 s7 s8
      obtain ⟨k, cs, a, cap, hg, hk, rfl, hst, hgr⟩ := hrel
      have HG := Lib.hid hg
      have HW := Lib.hid hst
      have HF := Lib.hid hgr
      clear hg hst hgr
      by_cases hlt : k < t.kids.length
      · have hlti : (k : Int) < (t.kids.length : Int) := by omega
        have hltl : k < l3.length := by rw [HL3.out]; exact hlt
        obtain ⟨b3, o3, rfl, hf⟩ := HROW.out.place (by rw [HLEN.out]; omega)
        obtain ⟨u, hu⟩ : ∃ u, t.kids[k]? = some u := ⟨_, List.getElem?_eq_getElem hlt⟩
        obtain ⟨y, hy⟩ : ∃ y, gs[k]? = some y := ⟨_, List.getElem?_eq_getElem (by rw [HLEN.out]; exact hlt)⟩
        obtain ⟨aa3, cap3', he3, h03, hc3⟩ := HR3.out
        rw [ints_length] at he3
        have haa : a3 = aa3 := by cases he3; rfl
        subst haa
        obtain ⟨b4, o4, rfl, hcell4⟩ := row_at h03 hc3 (by rw [ints_length]; omega)
        have hc4 := hcell4 k (.int .i64 (F k)) (by unfold ints; rw [List.getElem?_map, HSV.out k hlt]; rfl)
        have hne4 : (⟨b4, o4 + k, none⟩ : Addr) ≠ ⟨w.heap.size, 6, none⟩ := fun e => by rw [e, h63.out] at hc4; cases hc4
        have HC4 : Hid (∀ W x', RSt w w3 x' W → W.cell? ⟨b4, o4 + k, none⟩ = some (.int .i64 (F k))) := Lib.hid fun W x' h => h.keep _ _ hc4 hne4
        have HN4 := Lib.hid hne4
        have hba : Below wr.heap.size wr (wr.alloc (gbox y)).drew := ((Below.refl _ _).alloc (Nat.le_refl _) _).drew
        have HBA := Lib.hid hba
        have ST1 := Lib.hid (HW.out.up hba)
        have KB1 : Hid (Box9 (wr.alloc (gbox y)).drew wr.heap.size y) := Lib.hid (Box9.new wr y)
        have X0 := Lib.hid (s10_of KB1.out (HC4.out _ _ ST1.out))
        have HK := Lib.hid (HIH.out u y (F k) (wr.alloc (gbox y)).drew (by have := HS.out; have := sz_kid hu; omega) (by have := HM.out; have := sz_kid hu; omega) (HTK.out k u hu) (HCAN.out k u hu HEX.out) ((HEACH.out k y u hy hu).up ST1.out.below))
        have HST := Lib.hid (adjL_step (ax := 2) (s := F) hu)
        have HLC := Lib.hid (show cs.length + 1 ≤ 1954687338211 by have := HF.out.len; rw [adjL_len, List.length_take] at this; omega)
        have HOB : Hid (∀ g, (Value.slice a cs.length cap).ownBlock = some g → g < wr.heap.size) := Lib.hid fun g hg => (own_block HF.out.row hg).2
        obtain ⟨c0, c1, c2, c3, c4, c5, c6, c7, c8⟩ := g9_up (hf k y hy) HW.out.below
        have q6 := (g9_parts ST1.out.box).1.2.2.2.2.2.2.1
        clear hf hu hy hcell4 h03 hc3 he3 hc4 hne4 hba
        go_wp2_with fail
        obtain ⟨⟨k0, k1, k2, k3, k4, k5, k6, k7, k8⟩, -⟩ := g9_parts KB1.out
        have r4 := HC4.out _ _ ST1.out
        go_region_law (
          first
          | (refine step_append_cell rfl _ _ rfl w3.heap.size (.slice a cs.length cap) _ cs d rfl OW5.out rfl (OwnC.one w4 0 (Nat.zero_le _) d).row HLC.out wr (((HBA.out.trans (HB4.out.mono HBA.out.size)).trans (HA5.out.mono (Nat.le_trans HBA.out.size HB4.out.size))).mono HW.out.size) HW.out.size ?_
             intro g6 cap6 w6 hown6 hb6 hgr6 hpl6
             have ST6 := Lib.hid (HW.out.upB hb6)
             have HF6 := Lib.hid (HF.out.one (HBA.out.trans (HB4.out.mono HBA.out.size)) HA5.out HW.out.size (G4.out.wide HBA.out.size (Nat.le_refl _)) (by rw [List.length_append]; exact hown6) hgr6 hpl6)
             have e6 := ST6.out.box.free 6
             have p6 := (g9_parts ST6.out.box).1.2.2.2.2.2.2.1
             clear hown6 hb6 hgr6 hpl6)
          | (go_simp; go_at_call 79; (refine HK.out.mono ?_); rintro e w4 ⟨d, rfl, hst4, hb4⟩; have ST4 := Lib.hid (ST1.out.up hb4); have G4 := Lib.hid hst4; have HB4 := Lib.hid hb4; have q64 := (g9_parts ST4.out.box).1.2.2.2.2.2.2.1; have HA5 : Hid (Below w4.heap.size w4 (w4.alloc (cbox d))) := Lib.hid ((Below.refl _ _).alloc (Nat.le_refl _) _); have q65 := (g9_parts (ST4.out.up HA5.out).box).1.2.2.2.2.2.2.1; have OW5 := Lib.hid (HF.out.row.up ((HBA.out.trans (hb4.mono HBA.out.size)).trans (HA5.out.mono (Nat.le_trans HBA.out.size hb4.size)))); clear hst4 hb4))
        all_goals
          (try simp only [Exit.inBlock, Exit.then])
          go_wp2
          go_roundg (gk - 1)
          case measure => have := HG.out; omega
          case rel =>
            refine ⟨k + 1, cs ++ [d], some ⟨g6, 0, none⟩, cap6, by have := HG.out; omega, by omega, by go_num, ?_, ?_⟩
            · simpa using ST6.out.row (some ⟨g6, 0, none⟩) (cs.length + 1) cap6
            · rw [HST.out]
              have h7 := HF6.out.kept (w2 := w6.setCell ⟨w.heap.size, 6, none⟩ (.slice (some ⟨g6, 0, none⟩) (cs.length + 1) cap6)) (by simp [World.setCell]) fun j hj _ => Below.heap_setCell w6 ⟨w.heap.size, 6, none⟩ _ j (by show j ≠ w.heap.size; have := HW.out.far; omega)
              simpa using h7
      · obtain rfl : k = t.kids.length := by omega
        have hkl : ((t.kids.length : Int) < (t.kids.length : Int)) = False := by simp
        have HFA : Hid (Grove (fun _ => True) wr w3.heap.size (.slice a cs.length cap) cs (adjL 2 F t.kids)) := Lib.hid (by have h := HF.out; rw [List.take_length] at h; exact h)
        obtain ⟨⟨s0, s1, s2, s3, s4, s5, s6, s7, s8⟩, -⟩ := g9_parts HW.out.box
        obtain ⟨⟨z0, z1, z2, z3, z4, z5, z6⟩, f0, f1, f2, f3, f4, f5, f6⟩ := zero_parts HW.out.zero
        go_wp2
        (try simp only [Exit.inBlock, Exit.then])
        refine bodyPost_ret (results_cell1 rfl _ _ (w.heap.size + 1) ⟨ck, ⟨cr.x, cr.y, cr.w, cr.h + b⟩, cid, a, cs.length, cap⟩ rfl ((Box7.of_zero HW.out.zero).put ⟨ck, ⟨cr.x, cr.y, cr.w, cr.h + b⟩, cid, a, cs.length, cap⟩)) rfl ?_
        exact rs_end HEF.out HW.out HFA.out HFINE.out.1 HRF.out HFINE.out.2.2.1 (by rw [adjL_len]; omega)
end Go.Proofs.Ytodcabaihhmhnaa
/- adjust.Adjust, the program's. -/
namespace Go.Proofs.Ytodcabaihhmhnaa
open Go.RowKit Sh

set_option maxRecDepth 100000 in
theorem aroom_any (r : R) (ax : Int) (hax : ax = 1 ∨ ax = 2) (w : World) (h1 : 0 ≤ r.x ∧ 0 ≤ r.y ∧ 1 ≤ r.w ∧ 1 ≤ r.h ∧ r.x + r.w ≤ 10000 ∧ r.y + r.h ≤ 10000) : Calls Try.prog 77 #[val r, .int .u8 ax] w fun e w' => e = .returned (.int .i64 (10000 - (atA r ax + szA r ax))) ∧ Below w.heap.size w w' := by
  have B1 : Hid (Below w.heap.size w (w.alloc (box r))) := Lib.hid ((Below.refl _ _).alloc (Nat.le_refl _) _)
  have w1 : IntKind.i64.wrap (r.x + r.w) = r.x + r.w := wrap_id (by omega)
  have w2 : IntKind.i64.wrap (r.y + r.h) = r.y + r.h := wrap_id (by omega)
  have HS := Lib.hid (lsize_any ⟨0, 0, r.x + r.w, r.y + r.h⟩ ax (w.alloc (box r)))
  have hv : szA ⟨0, 0, r.x + r.w, r.y + r.h⟩ ax = atA r ax + szA r ax := by
    rcases hax with rfl | rfl <;> rfl
  rw [hv] at HS
  obtain ⟨m, hm⟩ : ∃ m, atA r ax + szA r ax = m := ⟨_, rfl⟩
  have hmb : 0 ≤ m ∧ m ≤ 10000 := by
    rw [← hm]
    rcases hax with rfl | rfl
    · show 0 ≤ r.x + r.w ∧ r.x + r.w ≤ 10000; omega
    · show 0 ≤ r.y + r.h ∧ r.y + r.h ≤ 10000; omega
  rw [hm] at HS ⊢
  have w3 : IntKind.i64.wrap (10000 - m) = 10000 - m := wrap_id (by omega)
  clear hv hm hax
  go_enter Try.func77, Try.ntmps77
  go_wp2_with fail
  refine HS.out.mono ?_
  rintro e w4 ⟨rfl, hb4⟩
  have B4 := Lib.hid (B1.out.trans (hb4.mono B1.out.size))
  clear hb4
  go_wp2
  go_ret
  exact ⟨by first | rfl | (refine ret_int ?_; omega), B4.out⟩

theorem szA_none {r : R} {ax : Int} (h : axB ax = false) : szA r ax = 0 := by
  have h1 : ¬ (ax = 1 ∨ ax = 2) := fun e => by rw [(axB_iff ax).2 e] at h; cases h
  unfold szA
  rw [if_neg (by omega), if_neg (by omega)]

set_option maxHeartbeats 4000000 in
set_option maxRecDepth 100000 in
theorem adjust_arg (t : T) (c : C) (ax b : Int) (w : World) (hm : sz t ≤ 990) (hi : Is w c t) (hn : ¬ (tileB t = true ∧ axB ax = true)) : Calls Try.prog 69 #[cval c, .int .u8 ax, .int .i64 b] w (AjSays ax b t .i64 w) := by
  have L0 := Lib.hid (ASt.start w c)
  have HE := Lib.hid (aj_arg (b := b) hn)
  have HT := Lib.hid (tilesOne_any t c (cellW w c) (L0.out.is hi) (fun _ => by omega) (w.heap.size + 2) (by simp))
  have hcase : tileB t = false ∨ (tileB t = true ∧ axB ax = false) := by
    cases h1 : tileB t with
    | false => exact .inl rfl
    | true => exact .inr ⟨rfl, by cases h2 : axB ax with | false => rfl | true => exact absurd ⟨h1, h2⟩ hn⟩
  have HSZ := Lib.hid (fun W => lsize_any c.r ax W)
  clear hi hm hn
  obtain ⟨c0, c1, c2, c3, c4, c5, c6⟩ := c7_of L0.out.box.cat
  rcases hcase with h1 | ⟨h1, h2⟩
  · rw [h1] at HT
    go_enter Try.func69, Try.ntmps69
    go_wp2_with fail
    refine HT.out.mono ?_
    rintro e w1 ⟨rfl, hb1⟩
    have L1 := Lib.hid (L0.out.up hb1)
    clear hb1
    obtain ⟨⟨z0, z1, z2, z3, z4, z5, z6⟩, f0, f1, f2, f3, f4, f5, f6⟩ := zero_parts L1.out.zero
    go_wp2
    (try simp only [Exit.inBlock, Exit.then])
    refine bodyPost_ret (results_c2 rfl _ _ (w.heap.size + 1) noC rfl ((Box7.of_zero L1.out.zero).put noC)) rfl ?_
    exact aj_err HE.out (by decide) (below_put7 L1.out.below (by omega) noC)
  · rw [h1] at HT
    have hs0 := szA_none (r := c.r) h2
    rw [hs0] at HSZ
    clear hs0 h2
    go_enter Try.func69, Try.ntmps69
    go_wp2_with fail
    refine HT.out.mono ?_
    rintro e w1 ⟨rfl, hb1⟩
    have L1 := Lib.hid (L0.out.up hb1)
    clear hb1 c0 c1 c2 c3 c4 c5 c6
    obtain ⟨c0, c1, c2, c3, c4, c5, c6⟩ := c7_of L1.out.box.cat
    go_wp2_with fail
    refine (HSZ.out w1).mono ?_
    rintro e w2 ⟨rfl, hb2⟩
    have L2 := Lib.hid (L1.out.up hb2)
    clear hb2 c0 c1 c2 c3 c4 c5 c6
    obtain ⟨⟨z0, z1, z2, z3, z4, z5, z6⟩, f0, f1, f2, f3, f4, f5, f6⟩ := zero_parts L2.out.zero
    go_wp2
    (try simp only [Exit.inBlock, Exit.then])
    refine bodyPost_ret (results_c2 rfl _ _ (w.heap.size + 1) noC rfl ((Box7.of_zero L2.out.zero).put noC)) rfl ?_
    exact aj_err HE.out (by decide) (below_put7 L2.out.below (by omega) noC)

set_option maxHeartbeats 4000000 in
set_option maxRecDepth 100000 in
theorem adjust1_any (t : T) (c : C) (b : Int) (w : World) (hm : sz t ≤ 990) (hi : Is w c t) (hb : fits b) (ht : tileB t = true) : Calls Try.prog 69 #[cval c, .int .u8 1, .int .i64 b] w (AjSays 1 b t .i64 w) := by
  have L0 := Lib.hid (ASt.start w c)
  have HT := Lib.hid (tilesOne_any t c (cellW w c) (L0.out.is hi) (fun _ => by omega) (w.heap.size + 2) (by simp))
  rw [ht] at HT
  have HE := Lib.hid (aj_do (ax := 1) (b := b) ⟨ht, rfl⟩)
  have hw := may_rect (well_rect (tile_top (by omega) ht).1)
  have hgv := gv_bounds (ax := 1) (by decide) (show sz t ≤ 20000 by omega) ht
  have htr := hi.split.2.1
  have HSZ := Lib.hid (fun W => lsize_any c.r 1 W)
  have HGI := Lib.hid (fun W (h : Is W c t) => giv_any t c 1 W h (fun _ => by omega))
  rw [gi_yes ht rfl] at HGI
  rw [htr] at hw
  have HRM := Lib.hid (fun W => aroom_any c.r 1 (by decide) W hw)
  have HST : Hid (ajT 1 b t = setT c.r.x c.r.y (adjT 1 b t)) := Lib.hid (by unfold ajT; rw [htr])
  have HCF := Lib.hid hi.fine.2.1
  have HEQ : Hid ((10000 < b ∨ b < -10000 ∨ 10000 < atA t.r 1 + szA t.r 1 + b ∨ szA t.r 1 + b < lsT 1 t) ↔ (b < -gvT 1 t ∨ 10000 - (c.r.x + c.r.w) < b)) := Lib.hid (by
    have h1 := szA_pos (well_rect (tile_top (show sz t ≤ 20000 by omega) ht).1) (show (1 : Int) = 1 ∨ (1 : Int) = 2 by decide)
    have h2 : atA t.r 1 = c.r.x := by rw [htr]; rfl
    have h3 : szA t.r 1 = c.r.w := by rw [htr]; rfl
    have h4 := ls_pos 1 t
    unfold gvT at hgv ⊢
    omega)
  have HCAN := Lib.hid (aj_can (ax := 1) (b := b) (t := t))
  have HI := Lib.hid hi
  have HM := Lib.hid hm
  have HTT := Lib.hid ht
  obtain ⟨hb1, hb2⟩ := hb
  have hat : atA c.r 1 + szA c.r 1 = c.r.x + c.r.w := rfl
  have hsz : szA c.r 1 = c.r.w := rfl
  rw [hat] at HRM
  rw [hsz] at HSZ
  have d0 : (c.r.w == 0) = false := by rw [beq_eq_false_iff_ne]; omega
  have hng : IntKind.i64.wrap (-gvT 1 t) = -gvT 1 t := wrap_id (by omega)
  generalize hm0 : gvT 1 t = m at HGI HEQ hng hgv
  clear hi hm ht htr hat hsz hm0
  obtain ⟨c0, c1, c2, c3, c4, c5, c6⟩ := c7_of L0.out.box.cat
  go_enter Try.func69, Try.ntmps69
  go_wp2_with fail
  refine HT.out.mono ?_
  rintro e w1 ⟨rfl, hb1'⟩
  have L1 := Lib.hid (L0.out.up hb1')
  clear hb1' c0 c1 c2 c3 c4 c5 c6 HT
  obtain ⟨c0, c1, c2, c3, c4, c5, c6⟩ := c7_of L1.out.box.cat
  go_wp2_with fail
  refine (HSZ.out w1).mono ?_
  rintro e w2 ⟨rfl, hb2'⟩
  have L2 := Lib.hid (L1.out.up hb2')
  clear hb2' c0 c1 c2 c3 c4 c5 c6 L1
  obtain ⟨c0, c1, c2, c3, c4, c5, c6⟩ := c7_of L2.out.box.cat
  go_wp2_with fail
  refine (HGI.out w2 (L2.out.is HI.out)).mono ?_
  rintro e w3 ⟨rfl, hb3'⟩
  have L3 := Lib.hid (L2.out.up hb3')
  clear hb3' c0 c1 c2 c3 c4 c5 c6 L2
  by_cases g1 : b < -m
  · have d1 : decide (b < -m) = true := decide_eq_true g1
    have HE9 := Lib.hid (HE.out.trans (if_pos (HEQ.out.2 (.inl g1))))
    clear g1
    obtain ⟨⟨z0, z1, z2, z3, z4, z5, z6⟩, f0, f1, f2, f3, f4, f5, f6⟩ := zero_parts L3.out.zero
    go_wp2
    (try simp only [Exit.inBlock, Exit.then])
    refine bodyPost_ret (results_c2 rfl _ _ (w.heap.size + 1) noC rfl ((Box7.of_zero L3.out.zero).put noC)) rfl ?_
    exact aj_err HE9.out (by decide) (below_put7 L3.out.below (by omega) noC)
  have d1 : decide (b < -m) = false := decide_eq_false g1
  obtain ⟨c0, c1, c2, c3, c4, c5, c6⟩ := c7_of L3.out.box.cat
  go_wp2_with fail
  refine (HRM.out w3).mono ?_
  rintro e w4 ⟨rfl, hb4'⟩
  have L4 := Lib.hid (L3.out.up hb4')
  clear hb4' c0 c1 c2 c3 c4 c5 c6 L3
  by_cases g2 : 10000 - (c.r.x + c.r.w) < b
  · have d2 : decide (10000 - (c.r.x + c.r.w) < b) = true := decide_eq_true g2
    have HE9 := Lib.hid (HE.out.trans (if_pos (HEQ.out.2 (.inr g2))))
    clear g1 g2
    obtain ⟨⟨z0, z1, z2, z3, z4, z5, z6⟩, f0, f1, f2, f3, f4, f5, f6⟩ := zero_parts L4.out.zero
    go_wp2
    (try simp only [Exit.inBlock, Exit.then])
    refine bodyPost_ret (results_c2 rfl _ _ (w.heap.size + 1) noC rfl ((Box7.of_zero L4.out.zero).put noC)) rfl ?_
    exact aj_err HE9.out (by decide) (below_put7 L4.out.below (by omega) noC)
  · have d2 : decide (10000 - (c.r.x + c.r.w) < b) = false := decide_eq_false g2
    have hno : ¬ (10000 < b ∨ b < -10000 ∨ 10000 < atA t.r 1 + szA t.r 1 + b ∨ szA t.r 1 + b < lsT 1 t) := fun h => by rcases HEQ.out.1 h with h | h <;> omega
    have HE9 := Lib.hid (HE.out.trans (if_neg hno))
    have hcan := HCAN.out hno
    have D4 : Hid (ASt w c w4.drew) := Lib.hid (L4.out.up (Below.refl _ _).drew)
    have X4 := Lib.hid (c7_of D4.out.box.cat)
    have HWE := Lib.hid (weigh_any 1 (by decide) (sz t) t c w4.drew (Nat.le_refl _) HM.out HTT.out (D4.out.is HI.out))
    have HRE := Lib.hid (fun (x : G) (W : World) (h : IsG W 1 x t) => resized1_any (sz t) t x b W (Nat.le_refl _) HM.out HTT.out hcan h)
    have HSET := Lib.hid (fun (d : C) (W : World) (h : Is W d (adjT 1 b t)) => set_any (sz (adjT 1 b t)) (adjT 1 b t) d c.r.x c.r.y W (Nat.le_refl _) HCF.out.1 HCF.out.2.1 h)
    clear hno g1 g2 hcan HE HCAN
    generalize adjT 1 b t = t' at HRE HSET HST
    go_wp2_with fail
    go_region_held3 (fun W => W.cell? ⟨w.heap.size, 0, none⟩ = some (.int .u8 c.k) ∧ W.cell? ⟨w.heap.size, 1, none⟩ = some (.int .i64 c.r.x) ∧ W.cell? ⟨w.heap.size, 2, none⟩ = some (.int .i64 c.r.y) ∧ W.cell? ⟨w.heap.size, 3, none⟩ = some (.int .i64 c.r.w) ∧ W.cell? ⟨w.heap.size, 4, none⟩ = some (.int .i64 c.r.h) ∧ W.cell? ⟨w.heap.size, 5, none⟩ = some (.int .i64 c.id) ∧ W.cell? ⟨w.heap.size, 6, none⟩ = some (.slice c.a c.n c.cap)) (first | with_reducible exact X4.out | with_reducible exact X5.out | with_reducible exact X6.out | with_reducible exact X7.out | with_reducible exact X8.out)
      (first
        | (go_at_call 78; (with_reducible refine HWE.out.mono ?_); rintro e w5 ⟨x5, rfl, hst5, hb5⟩; have L5 := Lib.hid (D4.out.up hb5); have X5 := Lib.hid (c7_of L5.out.box.cat); have I5 := Lib.hid hst5.is; clear hst5 hb5)
        | (go_at_call 79; (with_reducible refine (HRE.out x5 w5 I5.out).mono ?_); rintro e w6 ⟨d6, rfl, hst6, hb6⟩; have L6 := Lib.hid (L5.out.up hb6); have X6 := Lib.hid (c7_of L6.out.box.cat); have I6 := Lib.hid (hst6.is trivial); clear hst6 hb6)
        | (go_at_call 25; (with_reducible refine (HSET.out d6 w6 I6.out).mono ?_); rintro e w7 ⟨d7, S7, rfl, hown7, -, hb7⟩; have L7 := Lib.hid (L6.out.up hb7); have X7 := Lib.hid (c7_of L7.out.box.cat); have O7 := Lib.hid hown7; have X8 := Lib.hid (c7_put7 (k := w.heap.size + 1) (x := d7) X7.out (by omega)); obtain ⟨⟨z0, z1, z2, z3, z4, z5, z6⟩, f0, f1, f2, f3, f4, f5, f6⟩ := zero_parts L7.out.zero; clear hown7 hb7))
    go_wp2
    (try simp only [Exit.inBlock, Exit.then])
    refine bodyPost_ret (results_c2 rfl _ _ (w.heap.size + 1) d7 rfl ((Box7.of_zero L7.out.zero).put d7)) rfl ?_
    exact aj_ok HE9.out HST.out (stands_put L7.out O7.out rfl (lt_of_block L6.out.zero)) (below_put7 L7.out.below (by omega) d7)

set_option maxHeartbeats 4000000 in
set_option maxRecDepth 100000 in
theorem adjust2_any (t : T) (c : C) (b : Int) (w : World) (hm : sz t ≤ 990) (hi : Is w c t) (hb : fits b) (ht : tileB t = true) : Calls Try.prog 69 #[cval c, .int .u8 2, .int .i64 b] w (AjSays 2 b t .i64 w) := by
  have L0 := Lib.hid (ASt.start w c)
  have HT := Lib.hid (tilesOne_any t c (cellW w c) (L0.out.is hi) (fun _ => by omega) (w.heap.size + 2) (by simp))
  rw [ht] at HT
  have HE := Lib.hid (aj_do (ax := 2) (b := b) ⟨ht, rfl⟩)
  have hw := may_rect (well_rect (tile_top (by omega) ht).1)
  have hgv := gv_bounds (ax := 2) (by decide) (show sz t ≤ 20000 by omega) ht
  have htr := hi.split.2.1
  have HSZ := Lib.hid (fun W => lsize_any c.r 2 W)
  have HGI := Lib.hid (fun W (h : Is W c t) => giv_any t c 2 W h (fun _ => by omega))
  rw [gi_yes ht rfl] at HGI
  rw [htr] at hw
  have HRM := Lib.hid (fun W => aroom_any c.r 2 (by decide) W hw)
  have HST : Hid (ajT 2 b t = setT c.r.x c.r.y (adjT 2 b t)) := Lib.hid (by unfold ajT; rw [htr])
  have HCF := Lib.hid hi.fine.2.1
  have HEQ : Hid ((10000 < b ∨ b < -10000 ∨ 10000 < atA t.r 2 + szA t.r 2 + b ∨ szA t.r 2 + b < lsT 2 t) ↔ (b < -gvT 2 t ∨ 10000 - (c.r.y + c.r.h) < b)) := Lib.hid (by
    have h1 := szA_pos (well_rect (tile_top (show sz t ≤ 20000 by omega) ht).1) (show (2 : Int) = 1 ∨ (2 : Int) = 2 by decide)
    have h2 : atA t.r 2 = c.r.y := by rw [htr]; rfl
    have h3 : szA t.r 2 = c.r.h := by rw [htr]; rfl
    have h4 := ls_pos 2 t
    unfold gvT at hgv ⊢
    omega)
  have HCAN := Lib.hid (aj_can (ax := 2) (b := b) (t := t))
  have HI := Lib.hid hi
  have HM := Lib.hid hm
  have HTT := Lib.hid ht
  obtain ⟨hb1, hb2⟩ := hb
  have hat : atA c.r 2 + szA c.r 2 = c.r.y + c.r.h := rfl
  have hsz : szA c.r 2 = c.r.h := rfl
  rw [hat] at HRM
  rw [hsz] at HSZ
  have d0 : (c.r.h == 0) = false := by rw [beq_eq_false_iff_ne]; omega
  have hng : IntKind.i64.wrap (-gvT 2 t) = -gvT 2 t := wrap_id (by omega)
  generalize hm0 : gvT 2 t = m at HGI HEQ hng hgv
  clear hi hm ht htr hat hsz hm0
  obtain ⟨c0, c1, c2, c3, c4, c5, c6⟩ := c7_of L0.out.box.cat
  go_enter Try.func69, Try.ntmps69
  go_wp2_with fail
  refine HT.out.mono ?_
  rintro e w1 ⟨rfl, hb1'⟩
  have L1 := Lib.hid (L0.out.up hb1')
  clear hb1' c0 c1 c2 c3 c4 c5 c6 HT
  obtain ⟨c0, c1, c2, c3, c4, c5, c6⟩ := c7_of L1.out.box.cat
  go_wp2_with fail
  refine (HSZ.out w1).mono ?_
  rintro e w2 ⟨rfl, hb2'⟩
  have L2 := Lib.hid (L1.out.up hb2')
  clear hb2' c0 c1 c2 c3 c4 c5 c6 L1
  obtain ⟨c0, c1, c2, c3, c4, c5, c6⟩ := c7_of L2.out.box.cat
  go_wp2_with fail
  refine (HGI.out w2 (L2.out.is HI.out)).mono ?_
  rintro e w3 ⟨rfl, hb3'⟩
  have L3 := Lib.hid (L2.out.up hb3')
  clear hb3' c0 c1 c2 c3 c4 c5 c6 L2
  by_cases g1 : b < -m
  · have d1 : decide (b < -m) = true := decide_eq_true g1
    have HE9 := Lib.hid (HE.out.trans (if_pos (HEQ.out.2 (.inl g1))))
    clear g1
    obtain ⟨⟨z0, z1, z2, z3, z4, z5, z6⟩, f0, f1, f2, f3, f4, f5, f6⟩ := zero_parts L3.out.zero
    go_wp2
    (try simp only [Exit.inBlock, Exit.then])
    refine bodyPost_ret (results_c2 rfl _ _ (w.heap.size + 1) noC rfl ((Box7.of_zero L3.out.zero).put noC)) rfl ?_
    exact aj_err HE9.out (by decide) (below_put7 L3.out.below (by omega) noC)
  have d1 : decide (b < -m) = false := decide_eq_false g1
  obtain ⟨c0, c1, c2, c3, c4, c5, c6⟩ := c7_of L3.out.box.cat
  go_wp2_with fail
  refine (HRM.out w3).mono ?_
  rintro e w4 ⟨rfl, hb4'⟩
  have L4 := Lib.hid (L3.out.up hb4')
  clear hb4' c0 c1 c2 c3 c4 c5 c6 L3
  by_cases g2 : 10000 - (c.r.y + c.r.h) < b
  · have d2 : decide (10000 - (c.r.y + c.r.h) < b) = true := decide_eq_true g2
    have HE9 := Lib.hid (HE.out.trans (if_pos (HEQ.out.2 (.inr g2))))
    clear g1 g2
    obtain ⟨⟨z0, z1, z2, z3, z4, z5, z6⟩, f0, f1, f2, f3, f4, f5, f6⟩ := zero_parts L4.out.zero
    go_wp2
    (try simp only [Exit.inBlock, Exit.then])
    refine bodyPost_ret (results_c2 rfl _ _ (w.heap.size + 1) noC rfl ((Box7.of_zero L4.out.zero).put noC)) rfl ?_
    exact aj_err HE9.out (by decide) (below_put7 L4.out.below (by omega) noC)
  · have d2 : decide (10000 - (c.r.y + c.r.h) < b) = false := decide_eq_false g2
    have hno : ¬ (10000 < b ∨ b < -10000 ∨ 10000 < atA t.r 2 + szA t.r 2 + b ∨ szA t.r 2 + b < lsT 2 t) := fun h => by rcases HEQ.out.1 h with h | h <;> omega
    have HE9 := Lib.hid (HE.out.trans (if_neg hno))
    have hcan := HCAN.out hno
    have D4 : Hid (ASt w c w4.drew) := Lib.hid (L4.out.up (Below.refl _ _).drew)
    have X4 := Lib.hid (c7_of D4.out.box.cat)
    have HWE := Lib.hid (weigh_any 2 (by decide) (sz t) t c w4.drew (Nat.le_refl _) HM.out HTT.out (D4.out.is HI.out))
    have HRE := Lib.hid (fun (x : G) (W : World) (h : IsG W 2 x t) => resized2_any (sz t) t x b W (Nat.le_refl _) HM.out HTT.out hcan h)
    have HSET := Lib.hid (fun (d : C) (W : World) (h : Is W d (adjT 2 b t)) => set_any (sz (adjT 2 b t)) (adjT 2 b t) d c.r.x c.r.y W (Nat.le_refl _) HCF.out.1 HCF.out.2.1 h)
    clear hno g1 g2 hcan HE HCAN
    generalize adjT 2 b t = t' at HRE HSET HST
    go_wp2_with fail
    go_region_held3 (fun W => W.cell? ⟨w.heap.size, 0, none⟩ = some (.int .u8 c.k) ∧ W.cell? ⟨w.heap.size, 1, none⟩ = some (.int .i64 c.r.x) ∧ W.cell? ⟨w.heap.size, 2, none⟩ = some (.int .i64 c.r.y) ∧ W.cell? ⟨w.heap.size, 3, none⟩ = some (.int .i64 c.r.w) ∧ W.cell? ⟨w.heap.size, 4, none⟩ = some (.int .i64 c.r.h) ∧ W.cell? ⟨w.heap.size, 5, none⟩ = some (.int .i64 c.id) ∧ W.cell? ⟨w.heap.size, 6, none⟩ = some (.slice c.a c.n c.cap)) (first | with_reducible exact X4.out | with_reducible exact X5.out | with_reducible exact X6.out | with_reducible exact X7.out | with_reducible exact X8.out)
      (first
        | (go_at_call 78; (with_reducible refine HWE.out.mono ?_); rintro e w5 ⟨x5, rfl, hst5, hb5⟩; have L5 := Lib.hid (D4.out.up hb5); have X5 := Lib.hid (c7_of L5.out.box.cat); have I5 := Lib.hid hst5.is; clear hst5 hb5)
        | (go_at_call 79; (with_reducible refine (HRE.out x5 w5 I5.out).mono ?_); rintro e w6 ⟨d6, rfl, hst6, hb6⟩; have L6 := Lib.hid (L5.out.up hb6); have X6 := Lib.hid (c7_of L6.out.box.cat); have I6 := Lib.hid (hst6.is trivial); clear hst6 hb6)
        | (go_at_call 25; (with_reducible refine (HSET.out d6 w6 I6.out).mono ?_); rintro e w7 ⟨d7, S7, rfl, hown7, -, hb7⟩; have L7 := Lib.hid (L6.out.up hb7); have X7 := Lib.hid (c7_of L7.out.box.cat); have O7 := Lib.hid hown7; have X8 := Lib.hid (c7_put7 (k := w.heap.size + 1) (x := d7) X7.out (by omega)); obtain ⟨⟨z0, z1, z2, z3, z4, z5, z6⟩, f0, f1, f2, f3, f4, f5, f6⟩ := zero_parts L7.out.zero; clear hown7 hb7))
    go_wp2
    (try simp only [Exit.inBlock, Exit.then])
    refine bodyPost_ret (results_c2 rfl _ _ (w.heap.size + 1) d7 rfl ((Box7.of_zero L7.out.zero).put d7)) rfl ?_
    exact aj_ok HE9.out HST.out (stands_put L7.out O7.out rfl (lt_of_block L6.out.zero)) (below_put7 L7.out.below (by omega) d7)

theorem adjust_any (t : T) (c : C) (ax b : Int) (w : World) (hm : sz t ≤ 990) (hi : Is w c t) (hb : fits b) : Calls Try.prog 69 #[cval c, .int .u8 ax, .int .i64 b] w (AjSays ax b t .i64 w) := by
  by_cases h : tileB t = true ∧ axB ax = true
  · obtain ⟨ht, ha⟩ := h
    rcases (axB_iff ax).1 ha with rfl | rfl
    · exact adjust1_any t c b w hm hi hb ht
    · exact adjust2_any t c b w hm hi hb ht
  · exact adjust_arg t c ax b w hm hi h
end Go.Proofs.Ytodcabaihhmhnaa
