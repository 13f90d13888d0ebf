/- Texts of this seat, 3 in one file. -/
import Derived.Test.YtcdiogifgemjbaaGreatG07
import Derived.Test.YtcdiogifgemjbaaGreatG27
import Derived.Test.YtcdiogifgemjbaaGreatG29
/- Set, the program's walk. -/
namespace Go.Proofs.YtcdiogifgemjbaaGreat
open Go.RowKit

abbrev setC (c : C) (x y : Int) : C := ⟨c.k, ⟨x, y, c.r.w, c.r.h⟩, c.id, c.a, c.n, c.cap⟩
abbrev setW (w : World) (c : C) : World := (w.alloc (cbox c)).alloc zeroBox

set_option maxRecDepth 100000 in
theorem set_any (N : Nat) : ∀ (t : T) (c : C) (x y : Int) (w : World), sz t ≤ N → fits x → fits y → Is w c t → Calls Tryz.prog 20 #[cval c, .int .i64 x, .int .i64 y] w (SetSays (setT x y t) w) := by
  induction N with
  | zero => intro t c x y w h; have := sz_pos t; omega
  | succ N ih =>
    intro t c x y w hs hfx hfy hi
    have HFX := Lib.hid hfx
    have HFY := Lib.hid hfy
    have HFINE := Lib.hid hi.fine
    have HR := Lib.hid hi.row
    have HSP := Lib.hid hi.split
    have hn := hi.n
    have hfn := hi.len
    obtain ⟨ck, cr, cid, ca, cn, ccap⟩ := c
    simp only at hn
    subst hn
    clear hi hfx hfy
    have HS := Lib.hid hs
    have HIH := Lib.hid ih
    clear hs ih
    have BX : Hid (Box7 (setW w (setC ⟨ck, cr, cid, ca, t.kids.length, ccap⟩ x y)) w.heap.size (setC ⟨ck, cr, cid, ca, t.kids.length, ccap⟩ x y)) := Lib.hid ((Box7.new w _).up ((Below.refl _ _).alloc (Nat.le_refl _) _))
    have ZX : Hid (Zero7 (setW w (setC ⟨ck, cr, cid, ca, t.kids.length, ccap⟩ x y)) (w.heap.size + 1)) := Lib.hid (by
      have := zero_new (w.alloc (cbox (setC ⟨ck, cr, cid, ca, t.kids.length, ccap⟩ x y)))
      simpa using this)
    have BW : Hid (Below w.heap.size w (setW w (setC ⟨ck, cr, cid, ca, t.kids.length, ccap⟩ x y))) := ((Below.refl _ _).alloc (Nat.le_refl _) _).alloc (by simp) _
    have SW : Hid ((setW w (setC ⟨ck, cr, cid, ca, t.kids.length, ccap⟩ x y)).heap.size = w.heap.size + 2) := Lib.hid (by simp)
    go_enter Tryz.func20, Tryz.ntmps20
    go_wp2
    go_loopg [1, 2, 7, 19] (t.kids.length + 1) (fun g vx vy v i wr => ∃ (k : Nat) (cs : List C) (Ss : List (List Nat)), g + k = t.kids.length + 1 ∧ k ≤ t.kids.length ∧ i = .int .i64 k ∧ vx = .int .i64 (pX ck x (t.kids.take k)) ∧ vy = .int .i64 (pY ck y (t.kids.take k)) ∧ Forest wr (setW w (setC ⟨ck, cr, cid, ca, t.kids.length, ccap⟩ x y)).heap.size v cs (setL ck x y (t.kids.take k)) Ss ∧ Below (setW w (setC ⟨ck, cr, cid, ca, t.kids.length, ccap⟩ x y)).heap.size (setW w (setC ⟨ck, cr, cid, ca, t.kids.length, ccap⟩ x y)) wr)
    case atStart => exact ⟨0, [], [], by omega, by omega, rfl, by simp [pX], by simp [pY], by simpa [setL] using Forest.nil _ _, Below.refl _ _⟩
    case round =>
      obtain ⟨k, cs, Ss, hg, hk, rfl, rfl, rfl, hfo, hb⟩ := hrel
      have HG := Lib.hid hg
      have HF := Lib.hid hfo
      have HB := Lib.hid hb
      clear hg hfo hb
      have HBW := Lib.hid (BW.out.trans (HB.out.mono BW.out.size))
      by_cases hlt : k < t.kids.length
      · have hlti : (k : Int) < (t.kids.length : Int) := by omega
        obtain ⟨b, o, rfl, hf⟩ := HR.out.place (by omega)
        obtain ⟨u, hu⟩ : ∃ u, t.kids[k]? = some u := ⟨_, List.getElem?_eq_getElem hlt⟩
        obtain ⟨z, hz, hiz⟩ := hf k u hu
        clear hf
        obtain ⟨c0, c1, c2, c3, c4, c5, c6⟩ := hz.up HBW.out
        have HA : Hid (Below wr.heap.size wr (wr.alloc (cbox z))) := (Below.refl _ _).alloc (Nat.le_refl _) _
        obtain ⟨qx, hqx⟩ : ∃ q, pX ck x (t.kids.take k) = q := ⟨_, rfl⟩
        obtain ⟨qy, hqy⟩ : ∃ q, pY ck y (t.kids.take k) = q := ⟨_, rfl⟩
        have HK := Lib.hid (HIH.out u z qx qy (wr.alloc (cbox z)) (by have := HS.out; have := sz_kid hu; omega) (by rw [← hqx]; exact pX_fits _ HFX.out) (by rw [← hqy]; exact pY_fits _ HFY.out) ((hiz.up HBW.out).up HA.out))
        have HZR := Lib.hid hiz.split.2.1
        have HSN := Lib.hid (show setL ck x y (t.kids.take (k + 1)) = setL ck x y (t.kids.take k) ++ [setT qx qy u] by rw [take_snoc hu, setL_snoc, hqx, hqy])
        have HPX := Lib.hid (show pX ck x (t.kids.take (k + 1)) = nxX ck qx u by rw [pX_take hu, hqx])
        have HPY := Lib.hid (show pY ck y (t.kids.take (k + 1)) = nxY ck qy u by rw [pY_take hu, hqy])
        rw [hqx, hqy]
        clear hiz hu hz hqx hqy
        obtain ⟨ax, ay, HNX, HNY, hax⟩ : ∃ ax ay : Int, Hid (nxX ck qx u = ax) ∧ Hid (nxY ck qy u = ay) ∧ (((ck == 2) = true ∧ (ck == 3) = false ∧ ax = IntKind.i64.wrap (qx + IntKind.i64.wrap (z.r.w + 1)) ∧ ay = qy) ∨ ((ck == 2) = false ∧ (ck == 3) = true ∧ ax = qx ∧ ay = IntKind.i64.wrap (qy + IntKind.i64.wrap (z.r.h + 1))) ∨ ((ck == 2) = false ∧ (ck == 3) = false ∧ ax = qx ∧ ay = qy)) := by
          have hz := HZR.out
          by_cases h2 : ck = 2
          · subst h2; exact ⟨_, _, nxX_row, nxY_no (by decide), .inl ⟨rfl, rfl, by rw [wrap_a, hz], rfl⟩⟩
          · by_cases h3 : ck = 3
            · subst h3; exact ⟨_, _, nxX_no (by decide), nxY_col, .inr (.inl ⟨rfl, rfl, rfl, by rw [wrap_a, hz]⟩)⟩
            · exact ⟨_, _, nxX_no h2, nxY_no h3, .inr (.inr ⟨by simpa using h2, by simpa using h3, rfl, rfl⟩)⟩
        rcases hax with ⟨d2, d3, rfl, rfl⟩ | ⟨d2, d3, rfl, rfl⟩ | ⟨d2, d3, rfl, rfl⟩
        all_goals
          go_wp2_with fail
          refine HK.out.mono ?_
          rintro e w2 ⟨d, S2, rfl, hown2, hnd2, hb2⟩
          have HO2 := Lib.hid hown2
          have HN2 := Lib.hid hnd2
          have HB12 := Lib.hid (below_one hb2)
          have HB2 := Lib.hid (HB.out.trans ((below_one hb2).mono HB.out.size))
          have HSZ2 : Hid (wr.heap.size + 1 ≤ w2.heap.size) := Lib.hid (by have := hb2.size; simpa using this)
          have KX : Hid (Box7 (w2.alloc (cbox d)) wr.heap.size z) := Lib.hid (((Box7.new wr z).up hb2).up ((Below.refl _ _).alloc (Nat.le_refl _) _))
          clear hown2 hnd2 hb2 c0 c1 c2 c3 c4 c5 c6
          have HLN : Hid (cs.length + [d].length ≤ 1954687338211) := Lib.hid (by have := HF.out.len; rw [setL_length, List.length_take] at this; simp; omega)
          go_wp2_with (at_builtin; refine wpList_append_cells rfl _ _ rfl (setW w (setC ⟨ck, cr, cid, some ⟨b, o, none⟩, t.kids.length, ccap⟩ x y)).heap.size u7 _ cs [d] rfl (HF.out.row.up (HB12.out.trans ((Below.refl w2.heap.size w2).alloc (Nat.le_refl _) (cbox d) |>.mono HB12.out.size))) rfl (OwnC.one w2 0 (Nat.zero_le _) d).row (by simp) HLN.out (setW w (setC ⟨ck, cr, cid, some ⟨b, o, none⟩, t.kids.length, ccap⟩ x y)) (HB2.out.alloc HB2.out.size _) (Nat.le_refl _) ?_; intro g cap3 w3 hown3 hb3 hgr3 hpl3; have HF3 := Lib.hid (HF.out.add HB12.out HO2.out HN2.out (by simp) (by have := HB.out.size; exact Nat.le_trans this (by simp)) hown3 hgr3 hpl3); have KX3 := KX.out.grown hgr3 (fun e => by have := (own_block HF.out.row e).2; omega); have HB3 := Lib.hid hb3; clear hown3 hb3 hgr3 hpl3; obtain ⟨k0, k1, k2, k3, k4, k5, k6⟩ := KX3.cat; have BX3 := BX.out.up HB3.out; obtain ⟨b0, b1, b2, b3, b4, b5, b6⟩ := BX3.cat; simp only [Nat.zero_add] at k1 k2 k3 k4 k5 k6 b1 b2 b3 b4 b5 b6)
          go_wp2
          go_roundg (gk - 1)
          case measure => have := HG.out; omega
          case rel =>
            refine ⟨k + 1, cs ++ [d], Ss ++ [S2], by have := HG.out; omega, by omega, by go_num, (by rw [HPX.out, HNX.out]; try simp only [wrapE]), (by rw [HPY.out, HNY.out]; try simp only [wrapE]), ?_, HB3.out⟩
            rw [HSN.out]
            simpa using HF3.out
      · obtain rfl : k = t.kids.length := by omega
        have hkl : ((t.kids.length : Int) < (t.kids.length : Int)) = False := by simp
        have HFA : Hid (Forest wr (setW w (setC ⟨ck, cr, cid, ca, t.kids.length, ccap⟩ x y)).heap.size u7 cs (setL ck x y t.kids) Ss) := Lib.hid (by have := HF.out; rw [List.take_length] at this; exact this)
        obtain ⟨a', cap', rfl⟩ := HF.out.row.row.shape
        have HBX := Lib.hid (BX.out.up HB.out)
        have HZX := Lib.hid (zero_up ZX.out HB.out)
        obtain ⟨c0, c1, c2, c3, c4, c5, c6⟩ := HBX.out.cat
        simp only [Nat.zero_add] at c1 c2 c3 c4 c5 c6
        have g6 := HBX.out.free 6
        obtain ⟨⟨z0, z1, z2, z3, z4, z5, z6⟩, f0, f1, f2, f3, f4, f5, f6⟩ := zero_parts HZX.out
        go_wp2
        (try simp only [Exit.inBlock, Exit.then])
        have hset : (wr.setCell ⟨w.heap.size, 6, none⟩ (.slice a' cs.length cap')).heap[w.heap.size + 1]? = wr.heap[w.heap.size + 1]? := Below.heap_setCell wr ⟨w.heap.size, 6, none⟩ _ _ (by simp)
        have hz2 : Box7 (wr.setCell ⟨w.heap.size, 6, none⟩ (.slice a' cs.length cap')) (w.heap.size + 1) ⟨0, ⟨0, 0, 0, 0⟩, 0, none, 0, 0⟩ := hset.trans HZX.out
        refine bodyPost_ret (results_cell1 rfl _ _ (w.heap.size + 1) ⟨ck, ⟨x, y, cr.w, cr.h⟩, cid, a', cs.length, cap'⟩ rfl (hz2.put ⟨ck, ⟨x, y, cr.w, cr.h⟩, cid, a', cs.length, cap'⟩)) rfl ?_
        obtain ⟨e1, e2, e3, -⟩ := HSP.out
        have hend := set_end (k := ck) (r := ⟨x, y, cr.w, cr.h⟩) (id := cid) HBW.out (by have := HB.out.size; have := SW.out; omega) (by rw [← SW.out]; exact HFA.out) HFINE.out.1 ⟨HFX.out, HFY.out, HFINE.out.2.1.2.2⟩ HFINE.out.2.2.1 (by rw [setL_length]; exact hfn)
        refine ⟨⟨ck, ⟨x, y, cr.w, cr.h⟩, cid, a', cs.length, cap'⟩, blk (.slice a' cs.length cap') ++ Ss.flatten, rfl, ?_, hend.2.1, hend.2.2⟩
        rw [setT_eq, e1, e2, e3]
        exact hend.1
end Go.Proofs.YtcdiogifgemjbaaGreat
/- Set, the document's walk. -/
namespace Go.Proofs.YtcdiogifgemjbaaGreat
open Go.RowKit

set_option maxRecDepth 100000 in
theorem rset_any (N : Nat) : ∀ (t : T) (c : C) (x y : Int) (w : World), sz t ≤ N → fits x → fits y → Is w c t → Calls Tryz.prog 25 #[cval c, .int .i64 x, .int .i64 y] w (SetSays (setT x y t) w) := by
  induction N with
  | zero => intro t c x y w h; have := sz_pos t; omega
  | succ N ih =>
    intro t c x y w hs hfx hfy hi
    have HFX := Lib.hid hfx
    have HFY := Lib.hid hfy
    have HFINE := Lib.hid hi.fine
    have HR := Lib.hid hi.row
    have HSP := Lib.hid hi.split
    have hn := hi.n
    have hfn := hi.len
    obtain ⟨ck, cr, cid, ca, cn, ccap⟩ := c
    simp only at hn
    subst hn
    clear hi hfx hfy
    have HS := Lib.hid hs
    have HIH := Lib.hid ih
    clear hs ih
    have BX : Hid (Box7 (setW w (setC ⟨ck, cr, cid, ca, t.kids.length, ccap⟩ x y)) w.heap.size (setC ⟨ck, cr, cid, ca, t.kids.length, ccap⟩ x y)) := Lib.hid ((Box7.new w _).up ((Below.refl _ _).alloc (Nat.le_refl _) _))
    have ZX : Hid (Zero7 (setW w (setC ⟨ck, cr, cid, ca, t.kids.length, ccap⟩ x y)) (w.heap.size + 1)) := Lib.hid (by
      have := zero_new (w.alloc (cbox (setC ⟨ck, cr, cid, ca, t.kids.length, ccap⟩ x y)))
      simpa using this)
    have BW : Hid (Below w.heap.size w (setW w (setC ⟨ck, cr, cid, ca, t.kids.length, ccap⟩ x y))) := ((Below.refl _ _).alloc (Nat.le_refl _) _).alloc (by simp) _
    have SW : Hid ((setW w (setC ⟨ck, cr, cid, ca, t.kids.length, ccap⟩ x y)).heap.size = w.heap.size + 2) := Lib.hid (by simp)
    go_enter Tryz.func25, Tryz.ntmps25
    go_wp2
    go_loopg [1, 2, 7, 19] (t.kids.length + 1) (fun g vx vy v i wr => ∃ (k : Nat) (cs : List C) (Ss : List (List Nat)), g + k = t.kids.length + 1 ∧ k ≤ t.kids.length ∧ i = .int .i64 k ∧ vx = .int .i64 (pX ck x (t.kids.take k)) ∧ vy = .int .i64 (pY ck y (t.kids.take k)) ∧ Forest wr (setW w (setC ⟨ck, cr, cid, ca, t.kids.length, ccap⟩ x y)).heap.size v cs (setL ck x y (t.kids.take k)) Ss ∧ Below (setW w (setC ⟨ck, cr, cid, ca, t.kids.length, ccap⟩ x y)).heap.size (setW w (setC ⟨ck, cr, cid, ca, t.kids.length, ccap⟩ x y)) wr)
    case atStart => exact ⟨0, [], [], by omega, by omega, rfl, by simp [pX], by simp [pY], by simpa [setL] using Forest.empty (setW w (setC ⟨ck, cr, cid, ca, t.kids.length, ccap⟩ x y)) _ (Nat.le_refl _), (Below.refl _ _).alloc (Nat.le_refl _) _⟩
    case round =>
      obtain ⟨k, cs, Ss, hg, hk, rfl, rfl, rfl, hfo, hb⟩ := hrel
      have HG := Lib.hid hg
      have HF := Lib.hid hfo
      have HB := Lib.hid hb
      clear hg hfo hb
      have HBW := Lib.hid (BW.out.trans (HB.out.mono BW.out.size))
      by_cases hlt : k < t.kids.length
      · have hlti : (k : Int) < (t.kids.length : Int) := by omega
        obtain ⟨b, o, rfl, hf⟩ := HR.out.place (by omega)
        obtain ⟨u, hu⟩ : ∃ u, t.kids[k]? = some u := ⟨_, List.getElem?_eq_getElem hlt⟩
        obtain ⟨z, hz, hiz⟩ := hf k u hu
        clear hf
        obtain ⟨c0, c1, c2, c3, c4, c5, c6⟩ := hz.up HBW.out
        obtain ⟨s0, s1, s2, s3, s4, s5, s6⟩ := (BX.out.up HB.out).cat
        simp only [Nat.zero_add] at s1 s2 s3 s4 s5 s6
        obtain ⟨qx, hqx⟩ : ∃ q, pX ck x (t.kids.take k) = q := ⟨_, rfl⟩
        obtain ⟨qy, hqy⟩ : ∃ q, pY ck y (t.kids.take k) = q := ⟨_, rfl⟩
        have HK := Lib.hid (HIH.out u z qx qy wr (by have := HS.out; have := sz_kid hu; omega) (by rw [← hqx]; exact pX_fits _ HFX.out) (by rw [← hqy]; exact pY_fits _ HFY.out) (hiz.up HBW.out))
        have HZR := Lib.hid hiz.split.2.1
        have HSN := Lib.hid (show setL ck x y (t.kids.take (k + 1)) = setL ck x y (t.kids.take k) ++ [setT qx qy u] by rw [take_snoc hu, setL_snoc, hqx, hqy])
        have HPX := Lib.hid (show pX ck x (t.kids.take (k + 1)) = nxX ck qx u by rw [pX_take hu, hqx])
        have HPY := Lib.hid (show pY ck y (t.kids.take (k + 1)) = nxY ck qy u by rw [pY_take hu, hqy])
        rw [hqx, hqy]
        have HZ := Lib.hid hz
        clear hiz hu hz hqx hqy
        obtain ⟨ax, ay, HNX, HNY, hax⟩ : ∃ ax ay : Int, Hid (nxX ck qx u = ax) ∧ Hid (nxY ck qy u = ay) ∧ (((ck == 2) = true ∧ (ck == 3) = false ∧ ax = IntKind.i64.wrap (IntKind.i64.wrap (qx + z.r.w) + 1) ∧ ay = qy) ∨ ((ck == 2) = false ∧ (ck == 3) = true ∧ ax = qx ∧ ay = IntKind.i64.wrap (IntKind.i64.wrap (qy + z.r.h) + 1)) ∨ ((ck == 2) = false ∧ (ck == 3) = false ∧ ax = qx ∧ ay = qy)) := by
          have hz := HZR.out
          by_cases h2 : ck = 2
          · subst h2; exact ⟨_, _, nxX_row, nxY_no (by decide), .inl ⟨rfl, rfl, by rw [wrap_b, hz], rfl⟩⟩
          · by_cases h3 : ck = 3
            · subst h3; exact ⟨_, _, nxX_no (by decide), nxY_col, .inr (.inl ⟨rfl, rfl, rfl, by rw [wrap_b, hz]⟩)⟩
            · exact ⟨_, _, nxX_no h2, nxY_no h3, .inr (.inr ⟨by simpa using h2, by simpa using h3, rfl, rfl⟩)⟩
        rcases hax with ⟨d2, d3, rfl, rfl⟩ | ⟨d2, d3, rfl, rfl⟩ | ⟨d2, d3, rfl, rfl⟩
        all_goals
          go_wp2_with fail
          refine HK.out.mono ?_
          rintro e w2 ⟨d, S2, rfl, hown2, hnd2, hb2⟩
          have HO2 := Lib.hid hown2
          have HN2 := Lib.hid hnd2
          have HB12 := Lib.hid hb2
          have HB2 := Lib.hid (HB.out.trans (hb2.mono HB.out.size))
          clear hown2 hnd2 hb2 c0 c1 c2 c3 c4 c5 c6 s0 s1 s2 s3 s4 s5 s6
          have HLN : Hid (cs.length + [d].length ≤ 1954687338211) := Lib.hid (by have := HF.out.len; rw [setL_length, List.length_take] at this; simp; omega)
          go_wp2_with (at_builtin; refine wpList_append_cells rfl _ _ rfl (setW w (setC ⟨ck, cr, cid, some ⟨b, o, none⟩, t.kids.length, ccap⟩ x y)).heap.size u7 _ cs [d] rfl (HF.out.row.up (HB12.out.trans ((Below.refl w2.heap.size w2).alloc (Nat.le_refl _) (cbox d) |>.mono HB12.out.size))) rfl (OwnC.one w2 0 (Nat.zero_le _) d).row (by simp) HLN.out (setW w (setC ⟨ck, cr, cid, some ⟨b, o, none⟩, t.kids.length, ccap⟩ x y)) (HB2.out.alloc HB2.out.size _) (Nat.le_refl _) ?_; intro g cap3 w3 hown3 hb3 hgr3 hpl3; have HF3 := Lib.hid (HF.out.add HB12.out HO2.out HN2.out (by simp) (by have := HB.out.size; exact Nat.le_trans this (by simp)) hown3 hgr3 hpl3); have HB3 := Lib.hid hb3; clear hown3 hb3 hgr3 hpl3; obtain ⟨k0, k1, k2, k3, k4, k5, k6⟩ := HZ.out.up (BW.out.trans (HB3.out.mono BW.out.size)); have BX3 := BX.out.up HB3.out; obtain ⟨b0, b1, b2, b3, b4, b5, b6⟩ := BX3.cat; simp only [Nat.zero_add] at b1 b2 b3 b4 b5 b6)
          go_wp2
          go_roundg (gk - 1)
          case measure => have := HG.out; omega
          case rel =>
            refine ⟨k + 1, cs ++ [d], Ss ++ [S2], by have := HG.out; omega, by omega, by go_num, (by rw [HPX.out, HNX.out]; try simp only [wrapE]), (by rw [HPY.out, HNY.out]; try simp only [wrapE]), ?_, HB3.out⟩
            rw [HSN.out]
            simpa using HF3.out
      · obtain rfl : k = t.kids.length := by omega
        have hkl : ((t.kids.length : Int) < (t.kids.length : Int)) = False := by simp
        have HFA : Hid (Forest wr (setW w (setC ⟨ck, cr, cid, ca, t.kids.length, ccap⟩ x y)).heap.size u7 cs (setL ck x y t.kids) Ss) := Lib.hid (by have := HF.out; rw [List.take_length] at this; exact this)
        obtain ⟨a', cap', rfl⟩ := HF.out.row.row.shape
        have HBX := Lib.hid (BX.out.up HB.out)
        have HZX := Lib.hid (zero_up ZX.out HB.out)
        obtain ⟨c0, c1, c2, c3, c4, c5, c6⟩ := HBX.out.cat
        simp only [Nat.zero_add] at c1 c2 c3 c4 c5 c6
        have g6 := HBX.out.free 6
        obtain ⟨⟨z0, z1, z2, z3, z4, z5, z6⟩, f0, f1, f2, f3, f4, f5, f6⟩ := zero_parts HZX.out
        go_wp2
        (try simp only [Exit.inBlock, Exit.then])
        have hset : (wr.setCell ⟨w.heap.size, 6, none⟩ (.slice a' cs.length cap')).heap[w.heap.size + 1]? = wr.heap[w.heap.size + 1]? := Below.heap_setCell wr ⟨w.heap.size, 6, none⟩ _ _ (by simp)
        have hz2 : Box7 (wr.setCell ⟨w.heap.size, 6, none⟩ (.slice a' cs.length cap')) (w.heap.size + 1) ⟨0, ⟨0, 0, 0, 0⟩, 0, none, 0, 0⟩ := hset.trans HZX.out
        refine bodyPost_ret (results_cell1 rfl _ _ (w.heap.size + 1) ⟨ck, ⟨x, y, cr.w, cr.h⟩, cid, a', cs.length, cap'⟩ rfl (hz2.put ⟨ck, ⟨x, y, cr.w, cr.h⟩, cid, a', cs.length, cap'⟩)) rfl ?_
        obtain ⟨e1, e2, e3, -⟩ := HSP.out
        have hend := set_end (k := ck) (r := ⟨x, y, cr.w, cr.h⟩) (id := cid) HBW.out (by have := HB.out.size; have := SW.out; omega) (by rw [← SW.out]; exact HFA.out) HFINE.out.1 ⟨HFX.out, HFY.out, HFINE.out.2.1.2.2⟩ HFINE.out.2.2.1 (by rw [setL_length]; exact hfn)
        refine ⟨⟨ck, ⟨x, y, cr.w, cr.h⟩, cid, a', cs.length, cap'⟩, blk (.slice a' cs.length cap') ++ Ss.flatten, rfl, ?_, hend.2.1, hend.2.2⟩
        rw [setT_eq, e1, e2, e3]
        exact hend.1
end Go.Proofs.YtcdiogifgemjbaaGreat
/- A leaf is split: the document's answer. -/
namespace Go.Proofs.YtcdiogifgemjbaaGreat
open Go.RowKit

theorem sp_err {t : T} {id ax z fresh : Int} {ahead : Bool} {kind : IntKind} {w w' : World} {n : Int} (hn : spE t id ax z fresh ahead = n) (h0 : n ≠ 0) (hb : Below w.heap.size w w') : SpSays t id ax z fresh ahead kind w (.returned (.tuple #[cval noC, .int kind n])) w' := by
  subst hn
  exact ⟨noC, rfl, by rw [if_neg h0]; exact no_is w', hb⟩
theorem sp_ok {t t' : T} {id ax z fresh : Int} {ahead : Bool} {kind : IntKind} {w w' : World} {d : C} (hn : spE t id ax z fresh ahead = 0) (ht : spT t id ax z fresh ahead = t') (hi : Is w' d t') (hb : Below w.heap.size w w') : SpSays t id ax z fresh ahead kind w (.returned (.tuple #[cval d, .int kind 0])) w' := by
  subst ht
  exact ⟨d, by rw [hn], by rw [if_pos hn]; exact hi, hb⟩
theorem sp_arg {t : T} {id ax z fresh : Int} {ahead : Bool} (h : ¬ (tileB t = true ∧ axB ax = true ∧ 0 ≤ z ∧ 0 ≤ fresh ∧ fresh ≤ 2147483647)) : spE t id ax z fresh ahead = 1 := if_neg h
theorem sp_dup {t : T} {id ax z fresh : Int} {ahead : Bool} (h : tileB t = true ∧ axB ax = true ∧ 0 ≤ z ∧ 0 ≤ fresh ∧ fresh ≤ 2147483647) (hf : (lfF fresh t).isSome = true) : spE t id ax z fresh ahead = 1 := by
  unfold spE; rw [if_pos h, if_pos hf]
theorem sp_none {t : T} {id ax z fresh : Int} {ahead : Bool} (h : tileB t = true ∧ axB ax = true ∧ 0 ≤ z ∧ 0 ≤ fresh ∧ fresh ≤ 2147483647) (hf : (lfF fresh t).isSome = false) (hl : lfF id t = none) : spE t id ax z fresh ahead = 6 := by
  unfold spE; rw [if_pos h, if_neg (by rw [hf]; decide), hl]
theorem sp_some {t u : T} {id ax z fresh : Int} {ahead : Bool} (h : tileB t = true ∧ axB ax = true ∧ 0 ≤ z ∧ 0 ≤ fresh ∧ fresh ≤ 2147483647) (hf : (lfF fresh t).isSome = false) (hl : lfF id t = some u) :
    spE t id ax z fresh ahead = if szA u.r ax < 3 then 7 else if 20000 < sz (inT id ax (bothT u ax z fresh ahead) t) then 8 else 0 := by
  unfold spE; rw [if_pos h, if_neg (by rw [hf]; decide), hl]
theorem lf_leaf {id : Int} {t u : T} (h : lfF id t = some u) : u.k = 1 ∧ u.id = id ∧ u ∈ preT t := by
  have h1 := List.find?_some h
  have h2 := List.mem_of_find?_eq_some h
  rw [List.mem_filter] at h2
  refine ⟨?_, ?_, h2.1⟩
  · have := h2.2; unfold leafB at this; simpa using this
  · unfold lfB at h1; simpa using h1

/-- What the call keeps: its tree's box, its answer's, an empty one. -/
abbrev startW (w : World) (c : C) : World := ((w.alloc (cbox c)).alloc zeroBox).alloc zeroBox
structure LSt (w : World) (c : C) (W : World) : Prop where
  below : Below w.heap.size w W
  box : Box7 W w.heap.size c
  zero : Zero7 W (w.heap.size + 1)
  none : Box7 W (w.heap.size + 2) noC
theorem LSt.up {w W W' : World} {c : C} (h : LSt w c W) (hb : Below W.heap.size W W') : LSt w c W' := ⟨h.below.trans (hb.mono h.below.size), h.box.up hb, zero_up h.zero hb, h.none.up hb⟩
theorem LSt.start (w : World) (c : C) : LSt w c (startW w c) := by
  have h1 := cellW_below w c
  have h2 : Below (cellW w c).heap.size (cellW w c) (startW w c) := (Below.refl _ _).alloc (Nat.le_refl _) _
  refine ⟨h1.trans (h2.mono h1.size), (cellW_box w c).up h2, zero_up (cellW_zero w c) h2, ?_⟩
  have := zero_new (cellW w c)
  rw [cellW_size] at this
  exact this
theorem LSt.is {w W : World} {c : C} {t : T} (h : LSt w c W) (hi : Is w c t) : Is W c t := hi.up h.below

structure L2 (w : World) (c : C) (b : Nat) (lc : C) (W : World) : Prop where
  st : LSt w c W
  leaf : Box7 W b lc
theorem L2.up {w W W' : World} {c lc : C} {b : Nat} (h : L2 w c b lc W) (hb : Below W.heap.size W W') : L2 w c b lc W' := ⟨h.st.up hb, h.leaf.up hb⟩
abbrev C14 (b : Nat) (c : C) (b2 : Nat) (d : C) (W : World) : Prop := (W.cell? ⟨b, 0, none⟩ = some (.int .u8 c.k) ∧ W.cell? ⟨b, 1, none⟩ = some (.int .i64 c.r.x) ∧ W.cell? ⟨b, 2, none⟩ = some (.int .i64 c.r.y) ∧ W.cell? ⟨b, 3, none⟩ = some (.int .i64 c.r.w) ∧ W.cell? ⟨b, 4, none⟩ = some (.int .i64 c.r.h) ∧ W.cell? ⟨b, 5, none⟩ = some (.int .i64 c.id) ∧ W.cell? ⟨b, 6, none⟩ = some (.slice c.a c.n c.cap)) ∧ W.cell? ⟨b2, 0, none⟩ = some (.int .u8 d.k) ∧ W.cell? ⟨b2, 1, none⟩ = some (.int .i64 d.r.x) ∧ W.cell? ⟨b2, 2, none⟩ = some (.int .i64 d.r.y) ∧ W.cell? ⟨b2, 3, none⟩ = some (.int .i64 d.r.w) ∧ W.cell? ⟨b2, 4, none⟩ = some (.int .i64 d.r.h) ∧ W.cell? ⟨b2, 5, none⟩ = some (.int .i64 d.id) ∧ W.cell? ⟨b2, 6, none⟩ = some (.slice d.a d.n d.cap)
theorem L2.c14 {w W : World} {c lc : C} {b : Nat} (h : L2 w c b lc W) : C14 w.heap.size c b lc W := ⟨c7_of h.st.box.cat, c7_of h.leaf.cat⟩
theorem c14_alloc {b b2 : Nat} {c d : C} {W : World} (h : C14 b c b2 d W) (o : Obj) : C14 b c b2 d (W.alloc o) := by
  have hb : Below W.heap.size W (W.alloc o) := (Below.refl _ _).alloc (Nat.le_refl _) _
  obtain ⟨⟨a0, a1, a2, a3, a4, a5, a6⟩, b0, b1, b2, b3, b4, b5, b6⟩ := h
  exact ⟨⟨(hb.cell (lt_of_cell a0)).trans a0, (hb.cell (lt_of_cell a1)).trans a1, (hb.cell (lt_of_cell a2)).trans a2, (hb.cell (lt_of_cell a3)).trans a3, (hb.cell (lt_of_cell a4)).trans a4, (hb.cell (lt_of_cell a5)).trans a5, (hb.cell (lt_of_cell a6)).trans a6⟩, (hb.cell (lt_of_cell b0)).trans b0, (hb.cell (lt_of_cell b1)).trans b1, (hb.cell (lt_of_cell b2)).trans b2, (hb.cell (lt_of_cell b3)).trans b3, (hb.cell (lt_of_cell b4)).trans b4, (hb.cell (lt_of_cell b5)).trans b5, (hb.cell (lt_of_cell b6)).trans b6⟩

theorem c14_put7 {b b2 k : Nat} {c d x : C} {W : World} (h : C14 b c b2 d W) (h1 : b ≠ k) (h2 : b2 ≠ k) : C14 b c b2 d (put7 W k x) := by
  have g1 : ∀ o, (put7 W k x).cell? ⟨b, o, none⟩ = W.cell? ⟨b, o, none⟩ := fun o => World.cell?_of_block (a := ⟨b, o, none⟩) (heap_put7 h1)
  have g2 : ∀ o, (put7 W k x).cell? ⟨b2, o, none⟩ = W.cell? ⟨b2, o, none⟩ := fun o => World.cell?_of_block (a := ⟨b2, o, none⟩) (heap_put7 h2)
  obtain ⟨⟨a0, a1, a2, a3, a4, a5, a6⟩, b0, b1, b2, b3, b4, b5, b6⟩ := h
  exact ⟨⟨(g1 _).trans a0, (g1 _).trans a1, (g1 _).trans a2, (g1 _).trans a3, (g1 _).trans a4, (g1 _).trans a5, (g1 _).trans a6⟩, (g2 _).trans b0, (g2 _).trans b1, (g2 _).trans b2, (g2 _).trans b3, (g2 _).trans b4, (g2 _).trans b5, (g2 _).trans b6⟩

/-- Split, done: the whole tree in a box. -/
structure Mid (w : World) (c : C) (b : Nat) (d : C) (t' : T) (W : World) : Prop where
  st : LSt w c W
  cat : CAt W b 0 d
  is : Is W d t'
theorem Mid.up {w W W' : World} {c d : C} {b : Nat} {t' : T} (h : Mid w c b d t' W) (hb : Below W.heap.size W W') : Mid w c b d t' W' := ⟨h.st.up hb, h.cat.up hb, h.is.up hb⟩
theorem mid_new {w W : World} {c d : C} {t' : T} (h : LSt w c W) (hi : Is W d t') : Mid w c W.heap.size d t' (W.alloc (cbox d)) :=
  have hb : Below W.heap.size W (W.alloc (cbox d)) := (Below.refl _ _).alloc (Nat.le_refl _) _
  ⟨h.up hb, by simpa using cbox_new W d, hi.up hb⟩
/-- What stands: the elder memory, and the row of both. -/
def SpE (w : World) (v : Value) (ps : List C) (W : World) : Prop := Eld w W ∧ CRow W v ps
theorem spE_mk {w W : World} {base : Nat} {v : Value} {ps : List C} (h1 : Below w.heap.size w W) (h2 : OwnC W base v ps) : SpE w v ps W := ⟨Eld.of h1, h2.row⟩
theorem SpE.up {w : World} {v : Value} {ps : List C} : ∀ W W' : World, SpE w v ps W → Below W.heap.size W W' → SpE w v ps W' := fun _ _ h hb => ⟨h.1.up hb, h.2.up hb⟩
theorem mid_put {w W : World} {c d : C} {b lo hi base : Nat} {t' : T} {v : Value} {ps : List C} (h : LSt w c W) (hs : Stands (SpE w v ps) W lo hi d t') (hz : Zero7 W b) (h2 : w.heap.size + 2 < b) (hlo : b < lo) (hrow : OwnC W base v ps) (hne : ∀ g, v.ownBlock = some g → g ≠ b) : Mid w c b d t' (put7 W b d) := by
  have hsm : ∀ k, k ≠ b → (put7 W b d).heap[k]? = W.heap[k]? := fun k hk => heap_put7 hk
  refine ⟨⟨below_put7 h.below (by omega) d, (hsm _ (by omega)).trans h.box, (hsm _ (by omega)).trans h.zero, (hsm _ (by omega)).trans h.none⟩, ((Box7.of_zero hz).put d).cat, ?_⟩
  refine hs _ ⟨fun k hk => (hsm k (by omega)).trans (h.below.block k hk), (ownC_kept hrow fun g hg => hsm g (hne g hg)).row⟩ fun k hk _ => hsm k (by omega)

theorem ltA {a b : Nat} (h : a + 2 < b) : a < b := by omega
theorem two_shape {w : World} {base : Nat} {v : Value} {r : R} {id ax a b fresh : Int} {ahead : Bool} (h : OwnC w base v (twoC r id ax a b fresh ahead)) : ∃ va vcap, v = .slice va 2 vcap := by
  obtain ⟨va, vcap, hv⟩ := h.row.shape
  rw [twoC_len] at hv
  exact ⟨va, vcap, hv⟩
theorem own2_lt {W : World} {base cap : Nat} {a : Option Addr} {ps : List C} (h : OwnC W base (.slice a 2 cap) ps) : base < W.heap.size := by
  rcases h.2 with ⟨h1, -⟩ | ⟨g, cap', cur, h1, hb, hg, -⟩
  · cases h1
  · have := lt_of_block hg; omega
theorem mid_a {w W W11 W6 : World} {c d : C} {t' : T} {v : Value} {ps : List C} {base : Nat} (h : LSt w c W) (hs : Stands (SpE w v ps) W W11.heap.size W.heap.size d t') (hz : Zero7 W W6.heap.size) (h2 : w.heap.size + 2 < W6.heap.size) (hlo : W6.heap.size < W11.heap.size) (hrow : OwnC W base v ps) (hbase : W6.heap.size < base) : Mid w c W6.heap.size d t' (put7 W W6.heap.size d) :=
  mid_put h hs hz h2 hlo hrow fun g hg => by have := own_block hrow hg; omega
theorem mid_b {w W W11 : World} {c d : C} {t' : T} {v : Value} {ps : List C} {base : Nat} (h : LSt w c W) (hs : Stands (SpE w v ps) W (W11.alloc zeroBox).heap.size W.heap.size d t') (hz : Zero7 W W11.heap.size) (h2 : w.heap.size + 2 < W11.heap.size) (hrow1 : OwnC W11 base v ps) (hrow : OwnC W base v ps) : Mid w c W11.heap.size d t' (put7 W W11.heap.size d) :=
  mid_put h hs hz h2 (by simp) hrow fun g hg => by have := own_block hrow1 hg; omega

end Go.Proofs.YtcdiogifgemjbaaGreat
