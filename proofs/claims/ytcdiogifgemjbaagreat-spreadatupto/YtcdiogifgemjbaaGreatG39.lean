/- Texts of this seat, 3 in one file. -/
import Derived.Test.YtcdiogifgemjbaaGreatG04
import Derived.Deep.RegionLaw
import Derived.Test.YtcdiogifgemjbaaGreatG38
import Derived.Test.YtcdiogifgemjbaaGreatG29
import Derived.Test.YtcdiogifgemjbaaGreatG35
import Derived.Test.YtcdiogifgemjbaaGreatG28
import Derived.BigQuiet
/- One cell more in a row of the call's own, in a statement that draws its order. -/
namespace Go.Proofs.YtcdiogifgemjbaaGreat
open Go.RowKit

theorem step_append_cell {w : World} {ops : Array Oper} {o : Oper} {a : Act} {K : Act → World → Prop} {Q : Exit → Act → World → Prop} {E : Prop} (hgd : o.guard = none) (s x : Operand)
    (ho : o.op = .call { callee := .builtin .append, args := #[s, x], argTypes := #[24, 24] })
    (base : Nat) (v src : Value) (xs : List C) (d : C) (hs : a.eval s = v) (hown : OwnC w base v xs) (hx : a.eval x = src) (hrow : CRow w src [d])
    (h63 : xs.length + 1 ≤ 1954687338211) (w0 : World) (hb : Below base w0 w) (hbase0 : base ≤ w0.heap.size)
    (h : ∀ g cap w', OwnC w' base (.slice (some ⟨g, 0, none⟩) (xs.length + 1) cap) (xs ++ [d]) → Below base w0 w' → w.grownBy w' v.ownBlock → (v.ownBlock = some g ∨ g = w.heap.size) → K (a.put o.dst (.slice (some ⟨g, 0, none⟩) (xs.length + 1) cap)) w') :
    if Region.wanted o (yielded ops a.tmps) = true then Oper.wp Tryz.prog o a w K Q else E := by
  have hbase : base ≤ w.heap.size := Nat.le_trans hbase0 hb.size
  obtain ⟨i, hi, hz0, hz2, hz3⟩ := info_parts infoC
  obtain ⟨ad', cap, rfl⟩ := hrow.shape
  obtain ⟨ad, rfl, hc⟩ := crow_cells hrow (by simp)
  refine step_append_lies w hgd s x 24 ho base 26 i zeroC 7 72 Tryz.underlying24 hi hz0 hz2 hz3 rfl (by decide) v xs.length (flatC xs) hs hown ad 1 cap (flatC [d]) hx (flatC_length _) hc (flatC_oneCell _) (by decide) (by unfold maxLen; omega) (by omega) hbase w.heap.size rfl ?_
  intro g cap' w' g1 g2 g3 _
  refine h g cap' w' ?_ (hb.grown g2 hbase (fun k hk => (hown.lt k hk).1)) g2 g3
  rw [← flatC_append] at g1
  have hl : (xs ++ [d]).length = xs.length + 1 := by simp
  unfold OwnC
  rw [hl]; exact g1
end Go.Proofs.YtcdiogifgemjbaaGreat
/- resized: a tree of givers, adjusted. -/
namespace Go.Proofs.YtcdiogifgemjbaaGreat
open Go.RowKit Sh

structure RSt (w w3 : World) (x : G) (W : World) : Prop where
  below : Below w.heap.size w W
  box : Box9 W w.heap.size x
  zero : Zero7 W (w.heap.size + 1)
  keep : ∀ (a : Addr) (v : Value), w3.cell? a = some v → a ≠ ⟨w.heap.size, 6, none⟩ → W.cell? a = some v
  far : w.heap.size + 2 ≤ w3.heap.size
  size : w3.heap.size ≤ W.heap.size
theorem RSt.up {w w3 W W' : World} {x : G} (h : RSt w w3 x W) (hb : Below W.heap.size W W') : RSt w w3 x W' :=
  ⟨h.below.trans (hb.mono h.below.size), h.box.up hb, zero_up h.zero hb, fun a v ha hn => (hb.cell (lt_of_cell (h.keep a v ha hn))).trans (h.keep a v ha hn), h.far, Nat.le_trans h.size hb.size⟩
theorem RSt.upB {w w3 W W' : World} {x : G} (h : RSt w w3 x W) (hb : Below w3.heap.size W W') : RSt w w3 x W' := by
  have hf := h.far
  exact ⟨h.below.trans (hb.mono (by omega)), (hb.block _ (by omega)).trans h.box, (hb.block _ (by omega)).trans h.zero, fun a v ha hn => (hb.cell (lt_of_cell ha)).trans (h.keep a v ha hn), h.far, Nat.le_trans h.size hb.size⟩
theorem RSt.row {w w3 W : World} {x : G} (h : RSt w w3 x W) (a : Option Addr) (n cap : Nat) : RSt w w3 ⟨⟨x.c.k, x.c.r, x.c.id, a, n, cap⟩, x.g, x.a, x.n, x.cap⟩ (W.setCell ⟨w.heap.size, 6, none⟩ (.slice a n cap)) :=
  ⟨h.below.setCell (Nat.le_refl _) _, h.box.row a n cap, (Below.heap_setCell W ⟨w.heap.size, 6, none⟩ _ _ (by show w.heap.size + 1 ≠ w.heap.size; omega)).trans h.zero, fun b v hb hn => by
    rw [World.cell?_setCell_other _ _ _ _ (fun e => hn e.symm)]
    exact h.keep b v hb hn, h.far, by have := h.size; simpa [World.setCell] using this⟩
theorem Grove.kept {E : World → Prop} {w w2 : World} {base : Nat} {v : Value} {cs : List C} {l : List T} (h : Grove E w base v cs l) (hs : w.heap.size ≤ w2.heap.size) (hk : ∀ k, base ≤ k → k < w.heap.size → w2.heap[k]? = w.heap[k]?) : Grove E w2 base v cs l :=
  ⟨ownC_kept h.row fun g hg => hk g (own_block h.row hg).1 (own_block h.row hg).2, h.len, fun j x t hx ht => by
    obtain ⟨lo, hi, a1, a2, a3, a4⟩ := h.each j x t hx ht
    exact ⟨lo, hi, a1, Nat.le_trans a2 hs, a3, a4.move fun k hl hh => hk k (by omega) (by omega)⟩⟩
abbrev S10 (n : Nat) (y : G) (b o : Nat) (m : Int) (W : World) : Prop := (W.cell? ⟨n, 0, none⟩ = some (.int .u8 y.c.k) ∧ W.cell? ⟨n, 1, none⟩ = some (.int .i64 y.c.r.x) ∧ W.cell? ⟨n, 2, none⟩ = some (.int .i64 y.c.r.y) ∧ W.cell? ⟨n, 3, none⟩ = some (.int .i64 y.c.r.w) ∧ W.cell? ⟨n, 4, none⟩ = some (.int .i64 y.c.r.h) ∧ W.cell? ⟨n, 5, none⟩ = some (.int .i64 y.c.id) ∧ W.cell? ⟨n, 6, none⟩ = some (.slice y.c.a y.c.n y.c.cap) ∧ W.cell? ⟨n, 7, none⟩ = some (.int .i64 y.g) ∧ W.cell? ⟨n, 8, none⟩ = some (.slice y.a y.n y.cap)) ∧ W.cell? ⟨b, o, none⟩ = some (.int .i64 m)
theorem s10_of {n : Nat} {y : G} {b o : Nat} {m : Int} {W : World} (h : Box9 W n y) (hc : W.cell? ⟨b, o, none⟩ = some (.int .i64 m)) : S10 n y b o m W := ⟨(g9_parts h).1, hc⟩
theorem rs_end {w w3 W : World} {k : Int} {r : R} {id xg : Int} {a xa : Option Addr} {cap xn xcap : Nat} {cs : List C} {l : List T} {t' : T} (he : t' = .node k r id l) (h : RSt w w3 ⟨⟨k, r, id, a, cs.length, cap⟩, xg, xa, xn, xcap⟩ W) (hg : Grove (fun _ => True) W w3.heap.size (.slice a cs.length cap) cs l) (hk : 0 ≤ k ∧ k ≤ 255) (hr : r.fits) (hi : fits id) (hl : l.length ≤ 1954687338211) :
    GrSays (fun _ => True) t' w (.returned (cval ⟨k, r, id, a, cs.length, cap⟩)) (put7 W (w.heap.size + 1) ⟨k, r, id, a, cs.length, cap⟩) := by
  subst he
  have hf := h.far
  refine ⟨_, rfl, ?_, below_put7 h.below (by omega) _⟩
  rw [size_put7]
  exact ((hg.tree (k := k) (r := r) (id := id) hk hr hi hl).move (w2 := put7 W (w.heap.size + 1) ⟨k, r, id, a, cs.length, cap⟩) fun j hj _ => heap_put7 (by omega)).wide (by omega) (Nat.le_refl _)

set_option maxHeartbeats 4000000 in
set_option maxRecDepth 100000 in
theorem resized1_any (N : Nat) : ∀ (t : T) (x : G) (b : Int) (w : World), sz t ≤ N → sz t ≤ 990 → tileB t = true → canB 1 b t → IsG w 1 x t → Calls Tryz.prog 55 #[gval x, .int .u8 1, .int .i64 b] w (GrSays (fun _ => True) (adjT 1 b t) w) := by
  induction N with
  | zero => intro t x b w h; have := sz_pos t; omega
  | succ N ih =>
    intro t x b w hs hm ht hb hi
    have hax : (1 : Int) = 1 ∨ (1 : Int) = 2 := by decide
    have hrf := adjR_in hax (by omega) ht hb
    have hfn : t.kids.length ≤ 990 := by have := sz_node t; have := szL_len t.kids; omega
    have HE := Lib.hid (adjT_eq 1 b t)
    have HCAN : Hid (∀ (j : Nat) (u : T), t.kids[j]? = some u → (alB t.k 1 = true → ∃ l, ShIs b (t.kids.map (gvT 1)) l) → canB 1 (shF t.k 1 b (t.kids.map (gvT 1)) j) u) := Lib.hid fun j u hj hsh => can_kid hax (by omega) ht hb hj hsh
    have HTK : Hid (∀ (j : Nat) (u : T), t.kids[j]? = some u → tileB u = true) := Lib.hid fun j u hj => tile_kid (by have := sz_kid hj; omega) ht hj
    obtain ⟨e1, e2, e3, hfine, ⟨h1, h2, h3⟩, hg, gs, hrow, hlen, hn, heach⟩ := hi.split
    obtain ⟨⟨ck, cr, cid, ca, cn, ccap⟩, xg, xa, xn, xcap⟩ := x
    simp only at e1 e2 e3 h1 h2 h3 hn
    subst h1 h2 h3 hn
    rw [e2] at hrf
    obtain ⟨hrf, hw1, hw2, hh1, hh2⟩ := hrf
    have hwrap : IntKind.i64.wrap (cr.w + b) = cr.w + b := wrap_id (by omega)
    have HRF : Hid ((⟨cr.x, cr.y, cr.w + b, cr.h⟩ : R).fits) := Lib.hid hrf
    have HFINE := Lib.hid hfine
    have hb0 : Below w.heap.size w ((w.alloc (gbox ⟨⟨ck, ⟨cr.x, cr.y, cr.w + b, cr.h⟩, cid, none, 0, 0⟩, xg, xa, t.kids.length, xcap⟩)).alloc zeroBox) := ((Below.refl _ _).alloc (Nat.le_refl _) _).alloc (by simp) _
    have HB0 := Lib.hid hb0
    have HSH := Lib.hid (gshares_any 1 b hax t ⟨⟨ck, ⟨cr.x, cr.y, cr.w + b, cr.h⟩, cid, none, 0, 0⟩, xg, xa, t.kids.length, xcap⟩ ((w.alloc (gbox ⟨⟨ck, ⟨cr.x, cr.y, cr.w + b, cr.h⟩, cid, none, 0, 0⟩, xg, xa, t.kids.length, xcap⟩)).alloc zeroBox) hm ht hb ⟨e1, ⟨rfl, rfl, rfl⟩, gs, hrow.up hb0, hlen, rfl, fun j y u hy hu => (heach j y u hy hu).split.2.2.2.2.2.1⟩)
    have BX : Hid (Box9 ((w.alloc (gbox ⟨⟨ck, ⟨cr.x, cr.y, cr.w + b, cr.h⟩, cid, none, 0, 0⟩, xg, xa, t.kids.length, xcap⟩)).alloc zeroBox) w.heap.size ⟨⟨ck, ⟨cr.x, cr.y, cr.w + b, cr.h⟩, cid, none, 0, 0⟩, xg, xa, t.kids.length, xcap⟩) := Lib.hid ((Box9.new w ⟨⟨ck, ⟨cr.x, cr.y, cr.w + b, cr.h⟩, cid, none, 0, 0⟩, xg, xa, t.kids.length, xcap⟩).up ((Below.refl _ _).alloc (Nat.le_refl _) _))
    have ZX : Hid (Zero7 ((w.alloc (gbox ⟨⟨ck, ⟨cr.x, cr.y, cr.w + b, cr.h⟩, cid, none, 0, 0⟩, xg, xa, t.kids.length, xcap⟩)).alloc zeroBox) (w.heap.size + 1)) := Lib.hid (by
      have := zero_new (w.alloc (gbox ⟨⟨ck, ⟨cr.x, cr.y, cr.w + b, cr.h⟩, cid, none, 0, 0⟩, xg, xa, t.kids.length, xcap⟩))
      simpa using this)
    have SW : Hid (((w.alloc (gbox ⟨⟨ck, ⟨cr.x, cr.y, cr.w + b, cr.h⟩, cid, none, 0, 0⟩, xg, xa, t.kids.length, xcap⟩)).alloc zeroBox).heap.size = w.heap.size + 2) := Lib.hid (by simp)
    have HROW := Lib.hid hrow
    have HLEN := Lib.hid hlen
    have HEACH := Lib.hid heach
    have HS := Lib.hid hs
    have HM := Lib.hid hm
    have HIH := Lib.hid ih
    have HK1 := Lib.hid e1
    have HK2 := Lib.hid e2
    have HK3 := Lib.hid e3
    clear hs hm ht hb hi ih hrow hlen heach hg hfine hb0 hax hrf e1 e2 e3
    go_enter Tryz.func55, Tryz.ntmps55
    go_wp2_with fail
    refine HSH.out.mono ?_
    rintro e w3 ⟨hex, v3, l3, rfl, hrow3, hlen3, hsv, hb3⟩
    have HEX := Lib.hid hex
    generalize hF : shF t.k 1 b (t.kids.map (gvT 1)) = F at hsv HCAN
    have HEF : Hid (adjT 1 b t = .node ck ⟨cr.x, cr.y, cr.w + b, cr.h⟩ cid (adjL 1 F t.kids)) := Lib.hid (by rw [HE.out, hF, HK1.out, HK2.out, HK3.out]; rfl)
    have HSV := Lib.hid hsv
    have HR3 := Lib.hid hrow3
    have HL3 := Lib.hid hlen3
    have ST3 : Hid (RSt w w3 ⟨⟨ck, ⟨cr.x, cr.y, cr.w + b, cr.h⟩, cid, none, 0, 0⟩, xg, xa, t.kids.length, xcap⟩ w3) := Lib.hid ⟨HB0.out.trans (hb3.mono HB0.out.size), BX.out.up hb3, zero_up ZX.out hb3, fun a v ha _ => ha, by have := hb3.size; have := SW.out; omega, Nat.le_refl _⟩
    obtain ⟨a3, cap3, rfl⟩ := row_shape hrow3
    clear hex hsv hrow3 hlen3 hb3 hF HSH
    obtain ⟨⟨s0, s1, s2, s3, s4, s5, s6, s7, s8⟩, -⟩ := g9_parts ST3.out.box
    have h63 := Lib.hid s6
    go_wp2
    go_loopg [37] (t.kids.length + 1) (fun g i wr => ∃ (k : Nat) (cs : List C) (a : Option Addr) (cap : Nat), g + k = t.kids.length + 1 ∧ k ≤ t.kids.length ∧ i = .int .i64 k ∧ RSt w w3 ⟨⟨ck, ⟨cr.x, cr.y, cr.w + b, cr.h⟩, cid, a, cs.length, cap⟩, xg, xa, t.kids.length, xcap⟩ wr ∧ Grove (fun _ => True) wr w3.heap.size (.slice a cs.length cap) cs (adjL 1 F (t.kids.take k)))
    case atStart => exact ⟨0, [], none, 0, by omega, by omega, rfl, ST3.out, by simpa [adjL] using Grove.nil (fun _ => True) w3 w3.heap.size⟩
    case round =>
      clear s0 s1 s2 s3 s4 s5 s6 s7 s8
      obtain ⟨k, cs, a, cap, hg, hk, rfl, hst, hgr⟩ := hrel
      have HG := Lib.hid hg
      have HW := Lib.hid hst
      have HF := Lib.hid hgr
      clear hg hst hgr
      by_cases hlt : k < t.kids.length
      · have hlti : (k : Int) < (t.kids.length : Int) := by omega
        have hltl : k < l3.length := by rw [HL3.out]; exact hlt
        obtain ⟨b3, o3, rfl, hf⟩ := HROW.out.place (by rw [HLEN.out]; omega)
        obtain ⟨u, hu⟩ : ∃ u, t.kids[k]? = some u := ⟨_, List.getElem?_eq_getElem hlt⟩
        obtain ⟨y, hy⟩ : ∃ y, gs[k]? = some y := ⟨_, List.getElem?_eq_getElem (by rw [HLEN.out]; exact hlt)⟩
        obtain ⟨aa3, cap3', he3, h03, hc3⟩ := HR3.out
        rw [ints_length] at he3
        have haa : a3 = aa3 := by cases he3; rfl
        subst haa
        obtain ⟨b4, o4, rfl, hcell4⟩ := row_at h03 hc3 (by rw [ints_length]; omega)
        have hc4 := hcell4 k (.int .i64 (F k)) (by unfold ints; rw [List.getElem?_map, HSV.out k hlt]; rfl)
        have hne4 : (⟨b4, o4 + k, none⟩ : Addr) ≠ ⟨w.heap.size, 6, none⟩ := fun e => by rw [e, h63.out] at hc4; cases hc4
        have HC4 : Hid (∀ W x', RSt w w3 x' W → W.cell? ⟨b4, o4 + k, none⟩ = some (.int .i64 (F k))) := Lib.hid fun W x' h => h.keep _ _ hc4 hne4
        have HN4 := Lib.hid hne4
        have hba : Below wr.heap.size wr (wr.alloc (gbox y)).drew := ((Below.refl _ _).alloc (Nat.le_refl _) _).drew
        have HBA := Lib.hid hba
        have ST1 := Lib.hid (HW.out.up hba)
        have KB1 : Hid (Box9 (wr.alloc (gbox y)).drew wr.heap.size y) := Lib.hid (Box9.new wr y)
        have X0 := Lib.hid (s10_of KB1.out (HC4.out _ _ ST1.out))
        have HK := Lib.hid (HIH.out u y (F k) (wr.alloc (gbox y)).drew (by have := HS.out; have := sz_kid hu; omega) (by have := HM.out; have := sz_kid hu; omega) (HTK.out k u hu) (HCAN.out k u hu HEX.out) ((HEACH.out k y u hy hu).up ST1.out.below))
        have HST := Lib.hid (adjL_step (ax := 1) (s := F) hu)
        have HLC := Lib.hid (show cs.length + 1 ≤ 1954687338211 by have := HF.out.len; rw [adjL_len, List.length_take] at this; omega)
        have HOB : Hid (∀ g, (Value.slice a cs.length cap).ownBlock = some g → g < wr.heap.size) := Lib.hid fun g hg => (own_block HF.out.row hg).2
        obtain ⟨c0, c1, c2, c3, c4, c5, c6, c7, c8⟩ := g9_up (hf k y hy) HW.out.below
        have q6 := (g9_parts ST1.out.box).1.2.2.2.2.2.2.1
        clear hf hu hy hcell4 h03 hc3 he3 hc4 hne4 hba
        go_wp2_with fail
        obtain ⟨⟨k0, k1, k2, k3, k4, k5, k6, k7, k8⟩, -⟩ := g9_parts KB1.out
        have r4 := HC4.out _ _ ST1.out
        go_region_law (
          first
          | (refine step_append_cell rfl _ _ rfl w3.heap.size (.slice a cs.length cap) _ cs d rfl OW5.out rfl (OwnC.one w4 0 (Nat.zero_le _) d).row HLC.out wr (((HBA.out.trans (HB4.out.mono HBA.out.size)).trans (HA5.out.mono (Nat.le_trans HBA.out.size HB4.out.size))).mono HW.out.size) HW.out.size ?_
             intro g6 cap6 w6 hown6 hb6 hgr6 hpl6
             have ST6 := Lib.hid (HW.out.upB hb6)
             have HF6 := Lib.hid (HF.out.one (HBA.out.trans (HB4.out.mono HBA.out.size)) HA5.out HW.out.size (G4.out.wide HBA.out.size (Nat.le_refl _)) (by rw [List.length_append]; exact hown6) hgr6 hpl6)
             have e6 := ST6.out.box.free 6
             have p6 := (g9_parts ST6.out.box).1.2.2.2.2.2.2.1
             clear hown6 hb6 hgr6 hpl6)
          | (go_simp; go_at_call 55; (refine HK.out.mono ?_); rintro e w4 ⟨d, rfl, hst4, hb4⟩; have ST4 := Lib.hid (ST1.out.up hb4); have G4 := Lib.hid hst4; have HB4 := Lib.hid hb4; have q64 := (g9_parts ST4.out.box).1.2.2.2.2.2.2.1; have HA5 : Hid (Below w4.heap.size w4 (w4.alloc (cbox d))) := Lib.hid ((Below.refl _ _).alloc (Nat.le_refl _) _); have q65 := (g9_parts (ST4.out.up HA5.out).box).1.2.2.2.2.2.2.1; have OW5 := Lib.hid (HF.out.row.up ((HBA.out.trans (hb4.mono HBA.out.size)).trans (HA5.out.mono (Nat.le_trans HBA.out.size hb4.size)))); clear hst4 hb4))
        all_goals
          (try simp only [Exit.inBlock, Exit.then])
          go_wp2
          go_roundg (gk - 1)
          case measure => have := HG.out; omega
          case rel =>
            refine ⟨k + 1, cs ++ [d], some ⟨g6, 0, none⟩, cap6, by have := HG.out; omega, by omega, by go_num, ?_, ?_⟩
            · simpa using ST6.out.row (some ⟨g6, 0, none⟩) (cs.length + 1) cap6
            · rw [HST.out]
              have h7 := HF6.out.kept (w2 := w6.setCell ⟨w.heap.size, 6, none⟩ (.slice (some ⟨g6, 0, none⟩) (cs.length + 1) cap6)) (by simp [World.setCell]) fun j hj _ => Below.heap_setCell w6 ⟨w.heap.size, 6, none⟩ _ j (by show j ≠ w.heap.size; have := HW.out.far; omega)
              simpa using h7
      · obtain rfl : k = t.kids.length := by omega
        have hkl : ((t.kids.length : Int) < (t.kids.length : Int)) = False := by simp
        have HFA : Hid (Grove (fun _ => True) wr w3.heap.size (.slice a cs.length cap) cs (adjL 1 F t.kids)) := Lib.hid (by have h := HF.out; rw [List.take_length] at h; exact h)
        obtain ⟨⟨s0, s1, s2, s3, s4, s5, s6, s7, s8⟩, -⟩ := g9_parts HW.out.box
        obtain ⟨⟨z0, z1, z2, z3, z4, z5, z6⟩, f0, f1, f2, f3, f4, f5, f6⟩ := zero_parts HW.out.zero
        go_wp2
        (try simp only [Exit.inBlock, Exit.then])
        refine bodyPost_ret (results_cell1 rfl _ _ (w.heap.size + 1) ⟨ck, ⟨cr.x, cr.y, cr.w + b, cr.h⟩, cid, a, cs.length, cap⟩ rfl ((Box7.of_zero HW.out.zero).put ⟨ck, ⟨cr.x, cr.y, cr.w + b, cr.h⟩, cid, a, cs.length, cap⟩)) rfl ?_
        exact rs_end HEF.out HW.out HFA.out HFINE.out.1 HRF.out HFINE.out.2.2.1 (by rw [adjL_len]; omega)
end Go.Proofs.YtcdiogifgemjbaaGreat
/- The axis along which a cell's kids stand; how small each cell can be, told at once for a whole tree: the program's walks. -/
namespace Go.Proofs.YtcdiogifgemjbaaGreat
open Go.RowKit

def axO (k : Int) : Int := if alB k 1 = true then 1 else 2
theorem axO_is {k : Int} (h : k = 2 ∨ k = 3) : axO k = k - 1 := by rcases h with rfl | rfl <;> rfl
theorem axO_leaf {k : Int} (h : k = 1) : axO k = 2 := by subst h; rfl

set_option maxRecDepth 100000 in
theorem axisOf_any (c : C) (w : World) : Calls Tryz.prog 33 #[cval c] w fun e w' => e = .returned (.int .u8 (axO c.k)) ∧ Below w.heap.size w w' := by
  have HL := Lib.hid (along8_any c 1 (w.alloc (cbox c)))
  have B1 : Hid (Below w.heap.size w (w.alloc (cbox c))) := Lib.hid ((Below.refl _ _).alloc (Nat.le_refl _) _)
  unfold axO
  generalize alB c.k 1 = s at HL ⊢
  go_enter Tryz.func33, Tryz.ntmps33
  go_wp2_with fail
  refine HL.out.mono ?_
  rintro e w2 ⟨rfl, hb2⟩
  have HB2 := Lib.hid (B1.out.trans (hb2.mono B1.out.size))
  clear hb2
  cases s
  all_goals
    go_wp2
    go_ret
    exact ⟨rfl, HB2.out⟩

theorem Box7.wide {w : World} {b : Nat} {c : C} (h : Box7 w b c) (m : Int) : Box7 (w.setCell ⟨b, 3, none⟩ (.int .i64 m)) b ⟨c.k, ⟨c.r.x, c.r.y, m, c.r.h⟩, c.id, c.a, c.n, c.cap⟩ := by
  have h' : w.heap[b]? = some (cbox c) := h
  have h1 := set_block (i := 3) h' (.int .i64 m)
  refine h1.trans ?_
  simp
theorem Box7.high {w : World} {b : Nat} {c : C} (h : Box7 w b c) (m : Int) : Box7 (w.setCell ⟨b, 4, none⟩ (.int .i64 m)) b ⟨c.k, ⟨c.r.x, c.r.y, c.r.w, m⟩, c.id, c.a, c.n, c.cap⟩ := by
  have h' : w.heap[b]? = some (cbox c) := h
  have h1 := set_block (i := 4) h' (.int .i64 m)
  refine h1.trans ?_
  simp

/-- The cell's box, the answer's, and that of the one that is made. -/
structure LwSt (w : World) (c x : C) (W : World) : Prop where
  below : Below w.heap.size w W
  box : Box7 W w.heap.size c
  zero : Zero7 W (w.heap.size + 1)
  low : Box7 W (w.heap.size + 1 + 1) x
  size : w.heap.size + 3 ≤ W.heap.size
theorem LwSt.start (w : World) (c x : C) : LwSt w c x (((w.alloc (cbox c)).alloc zeroBox).alloc (cbox x)) := by
  have al : ∀ (W : World) (o : Obj), Below W.heap.size W (W.alloc o) := fun W o => (Below.refl _ _).alloc (Nat.le_refl _) o
  refine ⟨((al w (cbox c)).alloc (by simp) _).alloc (by simp; omega) _, ((Box7.new w c).up (al _ _)).up (al _ _), ?_, ?_, by simp⟩
  · have := zero_up (zero_new (w.alloc (cbox c))) (al _ (cbox x))
    simpa using this
  · have := Box7.new ((w.alloc (cbox c)).alloc zeroBox) x
    simpa using this
theorem LwSt.up {w W W' : World} {c x : C} (h : LwSt w c x W) (hb : Below W.heap.size W W') : LwSt w c x W' :=
  ⟨h.below.trans (hb.mono h.below.size), h.box.up hb, zero_up h.zero hb, h.low.up hb, Nat.le_trans h.size hb.size⟩
theorem LwSt.upB {w W W' : World} {c x : C} (h : LwSt w c x W) (hb : Below (w.heap.size + 3) W W') : LwSt w c x W' := by
  have hs := h.size
  exact ⟨h.below.trans (hb.mono (by omega)), (hb.block _ (by omega)).trans h.box, (hb.block _ (by omega)).trans h.zero, (hb.block _ (by omega)).trans h.low, Nat.le_trans h.size hb.size⟩
theorem LwSt.set {w W : World} {c x y : C} (h : LwSt w c x W) (i : Nat) (v : Value) (hy : Box7 (W.setCell ⟨w.heap.size + 1 + 1, i, none⟩ v) (w.heap.size + 1 + 1) y) : LwSt w c y (W.setCell ⟨w.heap.size + 1 + 1, i, none⟩ v) :=
  ⟨h.below.setCell (by show w.heap.size ≤ w.heap.size + 1 + 1; omega) _, (Below.heap_setCell W ⟨w.heap.size + 1 + 1, i, none⟩ _ _ (by show w.heap.size ≠ w.heap.size + 1 + 1; omega)).trans h.box, (Below.heap_setCell W ⟨w.heap.size + 1 + 1, i, none⟩ _ _ (by show w.heap.size + 1 ≠ w.heap.size + 1 + 1; omega)).trans h.zero, hy, by have := h.size; simpa [World.setCell] using this⟩
theorem LwSt.row {w W : World} {c x : C} (h : LwSt w c x W) (a : Option Addr) (n cap : Nat) : LwSt w c ⟨x.k, x.r, x.id, a, n, cap⟩ (W.setCell ⟨w.heap.size + 1 + 1, 6, none⟩ (.slice a n cap)) := h.set 6 _ (h.low.kids a n cap)
theorem LwSt.wh {w W : World} {c x : C} (h : LwSt w c x W) (m n : Int) : LwSt w c ⟨x.k, ⟨x.r.x, x.r.y, m, n⟩, x.id, x.a, x.n, x.cap⟩ ((W.setCell ⟨w.heap.size + 1 + 1, 3, none⟩ (.int .i64 m)).setCell ⟨w.heap.size + 1 + 1, 4, none⟩ (.int .i64 n)) :=
  (h.set 3 _ (h.low.wide m)).set 4 _ ((h.low.wide m).high n)
/-- What the loop has made, while the box below it is written into. -/
theorem grove_low {w W : World} {cs : List C} {l : List T} {v : Value} (h : Grove (fun _ => True) W (w.heap.size + 3) v cs l) (i : Nat) (u : Value) : Grove (fun _ => True) (W.setCell ⟨w.heap.size + 1 + 1, i, none⟩ u) (w.heap.size + 3) v cs l :=
  h.kept (by simp [World.setCell]) fun j hj _ => Below.heap_setCell W ⟨w.heap.size + 1 + 1, i, none⟩ _ j (by show j ≠ w.heap.size + 1 + 1; omega)

def lowC (k : Int) (l : List T) (a : Option Addr) (n cap : Nat) : C := ⟨k, ⟨0, 0, max 1 (lsX 1 l), max 1 (lsX 2 l)⟩, 0, a, n, cap⟩
theorem lowC_end {k : Int} {l : List T} {a : Option Addr} {n cap : Nat} : lowC k l a n cap = ⟨k, ⟨0, 0, max 1 (lsX 1 l), max 1 (lsX 2 l)⟩, 0, a, n, cap⟩ := rfl
theorem low_w {t : T} (h : okT t) : lsT 1 t = if t.k = 2 then ((t.kids.length : Int) - 1) + lsS 1 t.kids else max 1 (lsX 1 t.kids) := by
  by_cases hk : t.k = 2
  · rw [if_pos hk, ls_yes h (by rw [hk]; rfl)]; omega
  · rw [if_neg hk, ls_no (by unfold alB; simp; omega)]
theorem low_h {t : T} (h : okT t) : lsT 2 t = if t.k = 3 then ((t.kids.length : Int) - 1) + lsS 2 t.kids else max 1 (lsX 2 t.kids) := by
  by_cases hk : t.k = 3
  · rw [if_pos hk, ls_yes h (by rw [hk]; rfl)]; omega
  · rw [if_neg hk, ls_no (by unfold alB; simp; omega)]
/-- What is answered stands. -/
theorem low_end {w W : World} {t : T} {c x : C} {a : Option Addr} {cap : Nat} {cs : List C} (h : LwSt w c x W) (hg : Grove (fun _ => True) W (w.heap.size + 3) (.slice a cs.length cap) cs (loL t.kids)) (hx : x = ⟨t.k, ⟨0, 0, lsT 1 t, lsT 2 t⟩, 0, a, cs.length, cap⟩) (hk : 0 ≤ t.k ∧ t.k ≤ 255) (hm : sz t ≤ 990) :
    GrSays (fun _ => True) (loT t) w (.returned (cval x)) (put7 W (w.heap.size + 1) x) := by
  have hf := h.size
  have h1 := ls_sz 1 t
  have h2 := ls_sz 2 t
  have h3 := ls_pos 1 t
  have h4 := ls_pos 2 t
  have h5 : t.kids.length ≤ 990 := by have := sz_node t; have := szL_len t.kids; omega
  refine ⟨_, rfl, ?_, below_put7 h.below (by omega) _⟩
  rw [size_put7, loT_eq]
  subst hx
  exact ((hg.tree (k := t.k) (r := ⟨0, 0, lsT 1 t, lsT 2 t⟩) (id := 0) hk ⟨by unfold fits; simp, by unfold fits; simp, by unfold fits; simp only; omega, by unfold fits; simp only; omega⟩ (by unfold fits; omega) (by rw [loL_len]; omega)).move (w2 := put7 W (w.heap.size + 1) ⟨t.k, ⟨0, 0, lsT 1 t, lsT 2 t⟩, 0, a, cs.length, cap⟩) fun j hj _ => heap_put7 (by omega)).wide (by omega) (Nat.le_refl _)

set_option maxHeartbeats 8000000 in
set_option maxRecDepth 100000 in
theorem lowest_any (N : Nat) : ∀ (t : T) (c : C) (w : World), sz t ≤ N → sz t ≤ 990 → okT t → Is w c t → Calls Tryz.prog 18 #[cval c] w (GrSays (fun _ => True) (loT t) w) := by
  induction N with
  | zero => intro t c w h; have := sz_pos t; omega
  | succ N ih =>
    intro t c w hs hm hok hi
    have HR := Lib.hid hi.row
    have HSP := Lib.hid hi.split.1
    have HKK := Lib.hid hi.fine.1
    have hn := hi.n
    obtain ⟨ck, cr, cid, ca, cn, ccap⟩ := c
    simp only at hn HSP HKK
    subst hn
    clear hi
    have HS := Lib.hid hs
    have HM := Lib.hid hm
    have HOK := Lib.hid hok
    have HIH := Lib.hid ih
    have HKL : Hid (t.kids.length ≤ 990) := Lib.hid (by have := sz_node t; have := szL_len t.kids; omega)
    have HSL : Hid (szL t.kids ≤ 990) := Lib.hid (by have := sz_node t; omega)
    clear hs hm ih hok
    have hkl1 : t.kids.length ≤ 990 := HKL.out
    have hws : wrap64 ((t.kids.length : Int) - 1) = (t.kids.length : Int) - 1 := by rw [← wrapE]; exact wrap_id (by omega)
    have L0 := Lib.hid (LwSt.start w ⟨ck, cr, cid, ca, t.kids.length, ccap⟩ ⟨ck, ⟨0, 0, 1, 1⟩, 0, none, 0, 0⟩)
    go_enter Tryz.func18, Tryz.ntmps18
    go_upto_region 2 with fail
    change Code.wp _ _ _ _ (((w.alloc (cbox ⟨ck, cr, cid, ca, t.kids.length, ccap⟩)).alloc zeroBox).alloc (cbox ⟨ck, ⟨0, 0, 1, 1⟩, 0, none, 0, 0⟩))
    generalize ((w.alloc (cbox ⟨ck, cr, cid, ca, t.kids.length, ccap⟩)).alloc zeroBox).alloc (cbox ⟨ck, ⟨0, 0, 1, 1⟩, 0, none, 0, 0⟩) = W0 at L0 ⊢
    obtain ⟨c0, c1, c2, c3, c4, c5, c6⟩ := c7_of L0.out.box.cat
    go_wp2_with fail
    go_quiet (fail)
    have L1 := Lib.hid (L0.out.up (below_drewN (Below.refl _ _) nq))
    generalize W0.drewN nq = W1 at L1 ⊢
    clear c0 c1 c2 c3 c4 c5 c6 L0
    obtain ⟨c0, c1, c2, c3, c4, c5, c6⟩ := c7_of L1.out.box.cat
    have HG0 : Hid (Grove (fun _ => True) W1 (w.heap.size + 3) (.slice none 0 0) [] []) := Lib.hid (Grove.nil _ _ _)
    go_wp2
    go_loopg [4, 5, 24] (t.kids.length + 1) (fun g wv hv i wr => ∃ (k : Nat) (cs : List C) (a : Option Addr) (cap : Nat), g + k = t.kids.length + 1 ∧ k ≤ t.kids.length ∧ i = .int .i64 k ∧ wv = .int .i64 (((t.kids.length : Int) - 1) + lsS 1 (t.kids.take k)) ∧ hv = .int .i64 (((t.kids.length : Int) - 1) + lsS 2 (t.kids.take k)) ∧ LwSt w ⟨ck, cr, cid, ca, t.kids.length, ccap⟩ (lowC ck (t.kids.take k) a cs.length cap) wr ∧ Grove (fun _ => True) wr (w.heap.size + 3) (.slice a cs.length cap) cs (loL (t.kids.take k)))
    case atStart => exact ⟨0, [], none, 0, by omega, by omega, rfl, by simp [lsS], by simp [lsS], L1.out, by simpa [loL] using HG0.out⟩
    case round =>
      obtain ⟨k, cs, a, cap, hg, hk, rfl, rfl, rfl, hst, hgr⟩ := hrel
      have HG := Lib.hid hg
      have L2 := Lib.hid hst
      have HGR := Lib.hid hgr
      clear hg hst hgr c0 c1 c2 c3 c4 c5 c6
      by_cases hlt : k < t.kids.length
      · have hlti : (k : Int) < (t.kids.length : Int) := by omega
        obtain ⟨b, o, rfl, hf⟩ := HR.out.place (by omega)
        obtain ⟨u, hu⟩ : ∃ u, t.kids[k]? = some u := ⟨_, List.getElem?_eq_getElem hlt⟩
        obtain ⟨x, hx, hix⟩ := hf k u hu
        clear hf
        obtain ⟨c0, c1, c2, c3, c4, c5, c6⟩ := hx.up L2.out.below
        have HA : Hid (Below wr.heap.size wr (wr.alloc (cbox x))) := Lib.hid ((Below.refl _ _).alloc (Nat.le_refl _) _)
        have L3 := Lib.hid (L2.out.up HA.out)
        have HK := Lib.hid (HIH.out u x (wr.alloc (cbox x)) (by have := HS.out; have := sz_kid hu; omega) (by have := HM.out; have := sz_kid hu; omega) (ok_kid HOK.out hu) (hix.up L3.out.below))
        have HS1 := Lib.hid (lsS_step (ax := 1) hu)
        have HX1 := Lib.hid (lsX_step (ax := 1) hu)
        have HS2 := Lib.hid (lsS_step (ax := 2) hu)
        have HX2 := Lib.hid (lsX_step (ax := 2) hu)
        have HLS := Lib.hid (loL_step hu)
        have HLQ := Lib.hid (loT_eq u)
        have hp1 := ls_pos 1 u
        have hp2 : lsT 1 u ≤ 2000 := by have := ls_sz 1 u; have := sz_kid hu; have := HM.out; omega
        have hq1 := ls_pos 2 u
        have hq2 : lsT 2 u ≤ 2000 := by have := ls_sz 2 u; have := sz_kid hu; have := HM.out; omega
        have hp3 := lsS_pos 1 (t.kids.take k)
        have hp4 : lsS 1 (t.kids.take k) ≤ 2000 := by have := lsS_sz 1 (t.kids.take k); have := szL_take_le t.kids k; have := HSL.out; omega
        have hq3 := lsS_pos 2 (t.kids.take k)
        have hq4 : lsS 2 (t.kids.take k) ≤ 2000 := by have := lsS_sz 2 (t.kids.take k); have := szL_take_le t.kids k; have := HSL.out; omega
        have HLC : Hid (cs.length ≤ 990) := Lib.hid (by
          have h1 := HGR.out.len
          rw [loL_len, List.length_take] at h1
          have := HKL.out; omega)
        clear hix hu hx
        go_wp2_with fail
        refine HK.out.mono ?_
        rintro e w4 ⟨d, rfl, hst4, hb4⟩
        have L4 := Lib.hid (L3.out.up hb4)
        have A4 : Hid (Below w4.heap.size w4 (w4.alloc (cbox d))) := Lib.hid ((Below.refl _ _).alloc (Nat.le_refl _) _)
        have L5 := Lib.hid (L4.out.up A4.out)
        have HB45 : Hid (Below wr.heap.size wr w4) := Lib.hid (HA.out.trans (hb4.mono HA.out.size))
        have ST4 := Lib.hid (hst4.wide HA.out.size (Nat.le_refl _))
        have BX := Lib.hid (Box7.new w4 d)
        clear hst4 hb4 c0 c1 c2 c3 c4 c5 c6 HK
        go_upto_region 7 with fail
        change Code.wp _ _ _ _ (w4.alloc (cbox d))
        obtain ⟨lb, hlb⟩ : ∃ lb, w4.heap.size = lb := ⟨_, rfl⟩
        obtain ⟨W5, hW5⟩ : ∃ W5, w4.alloc (cbox d) = W5 := ⟨_, rfl⟩
        rw [hW5] at A4 L5 BX ⊢
        rw [hlb] at BX ⊢
        have HLB := Lib.hid hlb
        have HNE : Hid (lb ≠ w.heap.size + 1 + 1 ∧ lb ≠ w.heap.size ∧ lb ≠ w.heap.size + 1) := Lib.hid (by have := L4.out.size; omega)
        clear hW5 hlb
        have A6 : Hid (Below W5.heap.size W5 (W5.alloc (cbox d))) := Lib.hid ((Below.refl _ _).alloc (Nat.le_refl _) _)
        have A46 : Hid (Below w4.heap.size w4 (W5.alloc (cbox d))) := Lib.hid (A4.out.trans (A6.out.mono A4.out.size))
        have BW : Hid (Below wr.heap.size wr (W5.alloc (cbox d))) := Lib.hid (HB45.out.trans (A46.out.mono HB45.out.size))
        have OW := Lib.hid ((HGR.out.row.up BW.out))
        have L6 := Lib.hid (L5.out.up A6.out)
        have HOB : Hid (∀ g, (Value.slice a cs.length cap).ownBlock = some g → g ≠ lb) := Lib.hid fun g hg e => by have h1 := (own_block HGR.out.row hg).2; have h2 := HB45.out.size; have h3 := HLB.out; omega
        obtain ⟨p0, p1, p2, p3, p4, p5, p6⟩ := c7_of BX.out.cat
        obtain ⟨q0, q1, q2, q3, q4, q5, q6⟩ := c7_of L5.out.low.cat
        simp only [lowC] at q6
        have f6 := L5.out.low.free 6
        go_upto_region 8 with (at_builtin; refine wpList_append_cells rfl _ _ rfl (w.heap.size + 3) (.slice a cs.length cap) _ cs [d] rfl OW.out rfl (OwnC.one W5 0 (Nat.zero_le _) d).row (by simp) (by have := HLC.out; simp only [List.length_cons, List.length_nil]; omega) wr (BW.out.mono L2.out.size) L2.out.size ?_; intro g7 cap7 w7 hown7 hb7 hgr7 hpl7; have L7 := Lib.hid (L2.out.upB hb7); have G7 := Lib.hid (HGR.out.one HB45.out A46.out L2.out.size ST4.out hown7 hgr7 hpl7); have GR7 := Lib.hid hgr7; have g6 := L7.out.low.free 6; have h6 := (c7_of L7.out.low.cat).2.2.2.2.2.2; simp only [lowC] at h6; clear hown7 hb7 hgr7 hpl7)
        have B7 : Hid (Box7 w7 lb d) := Lib.hid ((GR7.out.block lb (lt_of_block (BX.out.up A6.out)) (fun e => HOB.out lb e.symm rfl)).trans (BX.out.up A6.out))
        have L8 := Lib.hid (L7.out.row (some ⟨g7, 0, none⟩) (cs.length + 1) cap7)
        have G8 := Lib.hid (grove_low (show Grove (fun _ => True) w7 (w.heap.size + 3) (.slice (some ⟨g7, 0, none⟩) (cs.length + 1) cap7) (cs ++ [d]) _ by have h := G7.out; rw [List.length_append] at h; exact h) 6 (.slice (some ⟨g7, 0, none⟩) (cs.length + 1) cap7))
        have B8 : Hid (Box7 (w7.setCell ⟨w.heap.size + 1 + 1, 6, none⟩ (.slice (some ⟨g7, 0, none⟩) (cs.length + 1) cap7)) lb d) := Lib.hid ((Below.heap_setCell w7 ⟨w.heap.size + 1 + 1, 6, none⟩ _ lb HNE.out.1).trans B7.out)
        have HDR : Hid (d.r = ⟨0, 0, lsT 1 u, lsT 2 u⟩) := Lib.hid (by
          have h1 := (ST4.out.is trivial).split.2.1
          rw [HLQ.out] at h1
          exact h1.symm)
        clear g6 h6 p0 p1 p2 p3 p4 p5 p6 q0 q1 q2 q3 q4 q5 q6 f6 L6 OW L7 G7 B7
        simp only [lowC] at L8
        generalize w7.setCell ⟨w.heap.size + 1 + 1, 6, none⟩ (.slice (some ⟨g7, 0, none⟩) (cs.length + 1) cap7) = W8 at L8 G8 B8 ⊢
        obtain ⟨dk, dr, did, da, dn, dcap⟩ := d
        have hdr : dr = ⟨0, 0, lsT 1 u, lsT 2 u⟩ := HDR.out
        subst hdr
        have HMX : Hid (max (max 1 (lsX 1 (t.kids.take k))) (lsT 1 u) = max 1 (lsX 1 (t.kids.take (k + 1)))) := Lib.hid (by rw [HX1.out]; omega)
        have HMY : Hid (max (max 1 (lsX 2 (t.kids.take k))) (lsT 2 u) = max 1 (lsX 2 (t.kids.take (k + 1)))) := Lib.hid (by rw [HX2.out]; omega)
        generalize lsS 1 (t.kids.take k) = m1 at HS1 hp3 hp4 ⊢
        generalize lsS 2 (t.kids.take k) = m2 at HS2 hq3 hq4 ⊢
        clear HX1 HX2
        generalize max 1 (lsX 1 (t.kids.take k)) = X1 at HMX L8
        generalize max 1 (lsX 2 (t.kids.take k)) = X2 at HMY L8
        generalize lsT 1 u = d1 at *
        generalize lsT 2 u = d2 at *
        obtain ⟨p0, p1, p2, p3, p4, p5, p6⟩ := c7_of B8.out.cat
        obtain ⟨q0, q1, q2, q3, q4, q5, q6⟩ := c7_of L8.out.low.cat
        simp only at p3 p4 q3 q4
        have g3 := L8.out.low.free 3
        have g4 := L8.out.low.free 4
        have hne := HNE.out.1
        go_region
        clear p0 p1 p2 p3 p4 p5 p6 q0 q1 q2 q3 q4 q5 q6 g3 g4
        obtain ⟨Z1, hZ1⟩ : ∃ Z1, max X1 d1 = Z1 := ⟨_, rfl⟩
        obtain ⟨Z2, hZ2⟩ : ∃ Z2, max X2 d2 = Z2 := ⟨_, rfl⟩
        rw [hZ1] at HMX
        rw [hZ2] at HMY
        rw [hZ1, hZ2]
        clear hZ1 hZ2
        have L9 := Lib.hid ((L8.out.wh Z1 Z2).up (Below.refl _ _).drew)
        have G9 := Lib.hid ((grove_low (grove_low G8.out 3 (.int .i64 Z1)) 4 (.int .i64 Z2)).up (Below.refl _ _).drew)
        have B9 : Hid (Box7 ((W8.setCell ⟨w.heap.size + 1 + 1, 3, none⟩ (.int .i64 Z1)).setCell ⟨w.heap.size + 1 + 1, 4, none⟩ (.int .i64 Z2)).drew lb ⟨dk, ⟨0, 0, d1, d2⟩, did, da, dn, dcap⟩) := Lib.hid (Box7.up ((Below.heap_setCell _ ⟨w.heap.size + 1 + 1, 4, none⟩ _ lb HNE.out.1).trans ((Below.heap_setCell W8 ⟨w.heap.size + 1 + 1, 3, none⟩ _ lb HNE.out.1).trans B8.out)) (Below.refl _ _).drew)
        generalize ((W8.setCell ⟨w.heap.size + 1 + 1, 3, none⟩ (.int .i64 Z1)).setCell ⟨w.heap.size + 1 + 1, 4, none⟩ (.int .i64 Z2)).drew = W9 at L9 G9 B9 ⊢
        clear L8 G8 B8
        obtain ⟨p0, p1, p2, p3, p4, p5, p6⟩ := c7_of B9.out.cat
        simp only at p3 p4
        go_wp2_with fail
        go_quiet (fail)
        clear p0 p1 p2 p3 p4 p5 p6
        have L10 := Lib.hid (L9.out.up (below_drewN (Below.refl _ _) nq))
        have G10 := Lib.hid (G9.out.up (below_drewN (Below.refl _ _) nq))
        generalize W9.drewN nq = W10 at L10 G10 ⊢
        clear L9 G9 B9
        go_wp2
        go_roundg (gk - 1)
        case measure => have := HG.out; omega
        case rel =>
          refine ⟨k + 1, cs ++ [⟨dk, ⟨0, 0, d1, d2⟩, did, da, dn, dcap⟩], some ⟨g7, 0, none⟩, cap7, by have := HG.out; omega, by omega, by go_num, ?_, ?_, ?_, ?_⟩
          · rw [HS1.out, ← Int.add_assoc]
          · rw [HS2.out, ← Int.add_assoc]
          · simp only [List.length_append, List.length_cons, List.length_nil, lowC]
            rw [← HMX.out, ← HMY.out]
            exact L10.out
          · rw [HLS.out]
            simpa using G10.out
      · obtain rfl : k = t.kids.length := by omega
        have hkl : ((t.kids.length : Int) < (t.kids.length : Int)) = False := by simp
        have HLW := Lib.hid (low_w HOK.out)
        have HLH := Lib.hid (low_h HOK.out)
        have HGF : Hid (Grove (fun _ => True) wr (w.heap.size + 3) (.slice a cs.length cap) cs (loL t.kids)) := Lib.hid (by have h := HGR.out; rw [List.take_length] at h; exact h)
        rw [List.take_length] at L2 ⊢
        rw [HSP.out] at HLW HLH
        have HKT : Hid (0 ≤ t.k ∧ t.k ≤ 255) := Lib.hid (by rw [HSP.out]; exact HKK.out)
        clear HGR L1 HG0
        simp only [lowC] at L2
        obtain ⟨c0, c1, c2, c3, c4, c5, c6⟩ := c7_of L2.out.box.cat
        obtain ⟨q0, q1, q2, q3, q4, q5, q6⟩ := c7_of L2.out.low.cat
        simp only at q0 q1 q2 q3 q4 q5 q6 c0 c1 c2 c3 c4 c5 c6
        have g3 := L2.out.low.free 3
        have g4 := L2.out.low.free 4
        have hkc : ck = 2 ∨ ck = 3 ∨ (ck ≠ 2 ∧ ck ≠ 3) := by omega
        rcases hkc with rfl | rfl | ⟨h2, h3⟩
        case' inl =>
          have HXX : Hid ((⟨2, ⟨0, 0, ((t.kids.length : Int) - 1) + lsS 1 t.kids, max 1 (lsX 2 t.kids)⟩, 0, a, cs.length, cap⟩ : C) = ⟨t.k, ⟨0, 0, lsT 1 t, lsT 2 t⟩, 0, a, cs.length, cap⟩) := Lib.hid (by rw [HLW.out, HLH.out, HSP.out]; rfl)
          have L11 := Lib.hid (L2.out.set 3 _ (L2.out.low.wide (((t.kids.length : Int) - 1) + lsS 1 t.kids)))
          have G11 := Lib.hid (grove_low HGF.out 3 (.int .i64 (((t.kids.length : Int) - 1) + lsS 1 t.kids)))
          go_upto_region 16 with fail
          simp only at L11
          generalize (⟨2, ⟨0, 0, ((t.kids.length : Int) - 1) + lsS 1 t.kids, max 1 (lsX 2 t.kids)⟩, 0, a, cs.length, cap⟩ : C) = x11 at HXX L11
          generalize wr.setCell ⟨w.heap.size + 1 + 1, 3, none⟩ (.int .i64 (((t.kids.length : Int) - 1) + lsS 1 t.kids)) = W11 at L11 G11 ⊢
        case' inr.inl =>
          have HXX : Hid ((⟨3, ⟨0, 0, max 1 (lsX 1 t.kids), ((t.kids.length : Int) - 1) + lsS 2 t.kids⟩, 0, a, cs.length, cap⟩ : C) = ⟨t.k, ⟨0, 0, lsT 1 t, lsT 2 t⟩, 0, a, cs.length, cap⟩) := Lib.hid (by rw [HLW.out, HLH.out, HSP.out]; rfl)
          have L11 := Lib.hid (L2.out.set 4 _ (L2.out.low.high (((t.kids.length : Int) - 1) + lsS 2 t.kids)))
          have G11 := Lib.hid (grove_low HGF.out 4 (.int .i64 (((t.kids.length : Int) - 1) + lsS 2 t.kids)))
          go_upto_region 16 with fail
          simp only at L11
          generalize (⟨3, ⟨0, 0, max 1 (lsX 1 t.kids), ((t.kids.length : Int) - 1) + lsS 2 t.kids⟩, 0, a, cs.length, cap⟩ : C) = x11 at HXX L11
          generalize wr.setCell ⟨w.heap.size + 1 + 1, 4, none⟩ (.int .i64 (((t.kids.length : Int) - 1) + lsS 2 t.kids)) = W11 at L11 G11 ⊢
        case' inr.inr =>
          have e2 : (ck == 2) = false := by rw [beq_eq_false_iff_ne]; exact h2
          have e3 : (ck == 3) = false := by rw [beq_eq_false_iff_ne]; exact h3
          have HXX : Hid ((⟨ck, ⟨0, 0, max 1 (lsX 1 t.kids), max 1 (lsX 2 t.kids)⟩, 0, a, cs.length, cap⟩ : C) = ⟨t.k, ⟨0, 0, lsT 1 t, lsT 2 t⟩, 0, a, cs.length, cap⟩) := Lib.hid (by rw [HLW.out, HLH.out, HSP.out, if_neg h2, if_neg h3])
          have L11 := L2
          have G11 := HGF
          go_upto_region 16 with fail
          clear e2 e3
          generalize (⟨ck, ⟨0, 0, max 1 (lsX 1 t.kids), max 1 (lsX 2 t.kids)⟩, 0, a, cs.length, cap⟩ : C) = x11 at HXX L11
          obtain ⟨W11, hW11⟩ : ∃ W11, wr = W11 := ⟨_, rfl⟩
          rw [hW11] at L11 G11 ⊢
          clear hW11
        all_goals
          clear c0 c1 c2 c3 c4 c5 c6 q0 q1 q2 q3 q4 q5 q6 g3 g4
          obtain ⟨q0, q1, q2, q3, q4, q5, q6⟩ := c7_of L11.out.low.cat
          obtain ⟨⟨z0, z1, z2, z3, z4, z5, z6⟩, f0, f1, f2, f3, f4, f5, f6⟩ := zero_parts L11.out.zero
          go_wp2
          (try simp only [Exit.inBlock, Exit.then])
          refine bodyPost_ret (results_cell1 rfl _ _ (w.heap.size + 1) x11 rfl ((Box7.of_zero L11.out.zero).put x11)) rfl ?_
          exact low_end L11.out G11.out HXX.out HKT.out HM.out
end Go.Proofs.YtcdiogifgemjbaaGreat
