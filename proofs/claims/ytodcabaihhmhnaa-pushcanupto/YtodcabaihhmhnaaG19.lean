/- Texts of this seat, 3 in one file. -/
import Derived.Test.YtodcabaihhmhnaaG18
import Derived.Test.YtodcabaihhmhnaaG06
/- Both, the elder one and the new one: the document's answer. -/
namespace Go.Proofs.Ytodcabaihhmhnaa
open Go.RowKit

abbrev pairC (c d : C) : Obj := .cells #[.int .u8 c.k, .int .i64 c.r.x, .int .i64 c.r.y, .int .i64 c.r.w, .int .i64 c.r.h, .int .i64 c.id, .slice c.a c.n c.cap, .int .u8 d.k, .int .i64 d.r.x, .int .i64 d.r.y, .int .i64 d.r.w, .int .i64 d.r.h, .int .i64 d.id, .slice d.a d.n d.cap] 26
theorem pair_own (w : World) (base : Nat) (hb : base ≤ w.heap.size) (c d : C) : OwnC (w.alloc (pairC c d)) base (.slice (some ⟨w.heap.size, 0, none⟩) 2 2) [c, d] := by
  refine ⟨by simp [flatC_length], .inr ⟨w.heap.size, 2, _, rfl, hb, heap_alloc_new w _, by simp, by unfold maxLen; omega, rfl, ?_⟩⟩
  rfl

def BothSays (l : List C) (w : World) (e : Ending) (w' : World) : Prop := ∃ v, e = .returned v ∧ OwnC w' w.heap.size v l ∧ Below w.heap.size w w'
theorem both_end {w W : World} {l : List C} {c d x y : C} {n : Nat} (hn : n = W.heap.size + 2) (h : l = [c, d]) (hb : Below w.heap.size w W) : BothSays l w (.returned (.slice (some ⟨n, 0, none⟩) 2 2)) (((W.alloc (cbox x)).alloc (cbox y)).alloc (pairC c d)) := by
  subst h
  have hb2 : Below w.heap.size w ((W.alloc (cbox x)).alloc (cbox y)) := (hb.alloc hb.size _).alloc (by have := hb.size; simp; omega) _
  have hs : ((W.alloc (cbox x)).alloc (cbox y)).heap.size = n := by simp; omega
  have h := pair_own ((W.alloc (cbox x)).alloc (cbox y)) _ hb2.size c d
  rw [hs] at h
  exact ⟨_, rfl, h, hb2.alloc hb2.size _⟩

end Go.Proofs.Ytodcabaihhmhnaa
/- A tree in which a leaf is two: the document's answer. -/
namespace Go.Proofs.Ytodcabaihhmhnaa
open Go.RowKit

abbrev cellW (w : World) (c : C) : World := (w.alloc (cbox c)).alloc zeroBox
theorem cellW_below (w : World) (c : C) : Below w.heap.size w (cellW w c) := ((Below.refl _ _).alloc (Nat.le_refl _) _).alloc (by simp) _
theorem cellW_box (w : World) (c : C) : Box7 (cellW w c) w.heap.size c := (Box7.new w c).up ((Below.refl _ _).alloc (Nat.le_refl _) _)
theorem cellW_zero (w : World) (c : C) : Zero7 (cellW w c) (w.heap.size + 1) := by
  have := zero_new (w.alloc (cbox c))
  simpa using this
theorem cellW_size (w : World) (c : C) : (cellW w c).heap.size = w.heap.size + 2 := by simp

/-- A tree that stands on elder memory and what the call made. -/
def GrSays (E : World → Prop) (t : T) (w : World) (e : Ending) (w' : World) : Prop := ∃ d, e = .returned (cval d) ∧ Stands E w' w.heap.size w'.heap.size d t ∧ Below w.heap.size w w'
theorem gr_of {E : World → Prop} {w w' : World} {t t' : T} {d : C} (he : t' = t) (h : ∀ W, E W → Is W d t) (hb : Below w.heap.size w w') : GrSays E t' w (.returned (cval d)) w' := by
  subst he
  exact ⟨d, rfl, fun W' h0 _ => h W' h0, hb⟩
abbrev endW (w wr : World) (d : C) : World := put7 (wr.setCell ⟨w.heap.size, 6, none⟩ (.slice d.a d.n d.cap)) (w.heap.size + 1) d
theorem endW_other {w wr : World} {d : C} {k : Nat} (h1 : k ≠ w.heap.size) (h2 : k ≠ w.heap.size + 1) : (endW w wr d).heap[k]? = wr.heap[k]? := by
  rw [heap_put7 h2, Below.heap_setCell wr ⟨w.heap.size, 6, none⟩ _ k h1]
theorem endW_size (w wr : World) (d : C) : (endW w wr d).heap.size = wr.heap.size := by rw [size_put7]; simp [World.setCell]
theorem gr_end {E : World → Prop} {w wr : World} {k : Int} {r : R} {id : Int} {a : Option Addr} {cap : Nat} {cs : List C} {l : List T} {t' : T} (he : t' = .node k r id l) (hb : Below w.heap.size w wr) (h : Grove E wr (w.heap.size + 2) (.slice a cs.length cap) cs l) (hk : 0 ≤ k ∧ k ≤ 255) (hr : r.fits) (hi : fits id) (hl : l.length ≤ 1954687338211) :
    GrSays E t' w (.returned (cval ⟨k, r, id, a, cs.length, cap⟩)) (endW w wr ⟨k, r, id, a, cs.length, cap⟩) := by
  subst he
  refine ⟨_, rfl, ?_, below_put7 (hb.setCell (Nat.le_refl _) _) (by omega) _⟩
  have hst := h.tree (k := k) (r := r) (id := id) hk hr hi hl
  exact (hst.move (w2 := endW w wr ⟨k, r, id, a, cs.length, cap⟩) fun j hj _ => endW_other (by omega) (by omega)).wide (by omega) (by rw [endW_size]; exact Nat.le_refl _)

end Go.Proofs.Ytodcabaihhmhnaa
/- Set, the program's walk. -/
namespace Go.Proofs.Ytodcabaihhmhnaa
open Go.RowKit

abbrev setC (c : C) (x y : Int) : C := ⟨c.k, ⟨x, y, c.r.w, c.r.h⟩, c.id, c.a, c.n, c.cap⟩
abbrev setW (w : World) (c : C) : World := (w.alloc (cbox c)).alloc zeroBox

set_option maxRecDepth 100000 in
theorem set_any (N : Nat) : ∀ (t : T) (c : C) (x y : Int) (w : World), sz t ≤ N → fits x → fits y → Is w c t → Calls Try.prog 25 #[cval c, .int .i64 x, .int .i64 y] w (SetSays (setT x y t) w) := by
  induction N with
  | zero => intro t c x y w h; have := sz_pos t; omega
  | succ N ih =>
    intro t c x y w hs hfx hfy hi
    have HFX := Lib.hid hfx
    have HFY := Lib.hid hfy
    have HFINE := Lib.hid hi.fine
    have HR := Lib.hid hi.row
    have HSP := Lib.hid hi.split
    have hn := hi.n
    have hfn := hi.len
    obtain ⟨ck, cr, cid, ca, cn, ccap⟩ := c
    simp only at hn
    subst hn
    clear hi hfx hfy
    have HS := Lib.hid hs
    have HIH := Lib.hid ih
    clear hs ih
    have BX : Hid (Box7 (setW w (setC ⟨ck, cr, cid, ca, t.kids.length, ccap⟩ x y)) w.heap.size (setC ⟨ck, cr, cid, ca, t.kids.length, ccap⟩ x y)) := Lib.hid ((Box7.new w _).up ((Below.refl _ _).alloc (Nat.le_refl _) _))
    have ZX : Hid (Zero7 (setW w (setC ⟨ck, cr, cid, ca, t.kids.length, ccap⟩ x y)) (w.heap.size + 1)) := Lib.hid (by
      have := zero_new (w.alloc (cbox (setC ⟨ck, cr, cid, ca, t.kids.length, ccap⟩ x y)))
      simpa using this)
    have BW : Hid (Below w.heap.size w (setW w (setC ⟨ck, cr, cid, ca, t.kids.length, ccap⟩ x y))) := ((Below.refl _ _).alloc (Nat.le_refl _) _).alloc (by simp) _
    have SW : Hid ((setW w (setC ⟨ck, cr, cid, ca, t.kids.length, ccap⟩ x y)).heap.size = w.heap.size + 2) := Lib.hid (by simp)
    go_enter Try.func25, Try.ntmps25
    go_wp2
    go_loopg [1, 2, 7, 19] (t.kids.length + 1) (fun g vx vy v i wr => ∃ (k : Nat) (cs : List C) (Ss : List (List Nat)), g + k = t.kids.length + 1 ∧ k ≤ t.kids.length ∧ i = .int .i64 k ∧ vx = .int .i64 (pX ck x (t.kids.take k)) ∧ vy = .int .i64 (pY ck y (t.kids.take k)) ∧ Forest wr (setW w (setC ⟨ck, cr, cid, ca, t.kids.length, ccap⟩ x y)).heap.size v cs (setL ck x y (t.kids.take k)) Ss ∧ Below (setW w (setC ⟨ck, cr, cid, ca, t.kids.length, ccap⟩ x y)).heap.size (setW w (setC ⟨ck, cr, cid, ca, t.kids.length, ccap⟩ x y)) wr)
    case atStart => exact ⟨0, [], [], by omega, by omega, rfl, by simp [pX], by simp [pY], by simpa [setL] using Forest.nil _ _, Below.refl _ _⟩
    case round =>
      obtain ⟨k, cs, Ss, hg, hk, rfl, rfl, rfl, hfo, hb⟩ := hrel
      have HG := Lib.hid hg
      have HF := Lib.hid hfo
      have HB := Lib.hid hb
      clear hg hfo hb
      have HBW := Lib.hid (BW.out.trans (HB.out.mono BW.out.size))
      by_cases hlt : k < t.kids.length
      · have hlti : (k : Int) < (t.kids.length : Int) := by omega
        obtain ⟨b, o, rfl, hf⟩ := HR.out.place (by omega)
        obtain ⟨u, hu⟩ : ∃ u, t.kids[k]? = some u := ⟨_, List.getElem?_eq_getElem hlt⟩
        obtain ⟨z, hz, hiz⟩ := hf k u hu
        clear hf
        obtain ⟨c0, c1, c2, c3, c4, c5, c6⟩ := hz.up HBW.out
        have HA : Hid (Below wr.heap.size wr (wr.alloc (cbox z))) := (Below.refl _ _).alloc (Nat.le_refl _) _
        obtain ⟨qx, hqx⟩ : ∃ q, pX ck x (t.kids.take k) = q := ⟨_, rfl⟩
        obtain ⟨qy, hqy⟩ : ∃ q, pY ck y (t.kids.take k) = q := ⟨_, rfl⟩
        have HK := Lib.hid (HIH.out u z qx qy (wr.alloc (cbox z)) (by have := HS.out; have := sz_kid hu; omega) (by rw [← hqx]; exact pX_fits _ HFX.out) (by rw [← hqy]; exact pY_fits _ HFY.out) ((hiz.up HBW.out).up HA.out))
        have HZR := Lib.hid hiz.split.2.1
        have HSN := Lib.hid (show setL ck x y (t.kids.take (k + 1)) = setL ck x y (t.kids.take k) ++ [setT qx qy u] by rw [take_snoc hu, setL_snoc, hqx, hqy])
        have HPX := Lib.hid (show pX ck x (t.kids.take (k + 1)) = nxX ck qx u by rw [pX_take hu, hqx])
        have HPY := Lib.hid (show pY ck y (t.kids.take (k + 1)) = nxY ck qy u by rw [pY_take hu, hqy])
        rw [hqx, hqy]
        clear hiz hu hz hqx hqy
        obtain ⟨ax, ay, HNX, HNY, hax⟩ : ∃ ax ay : Int, Hid (nxX ck qx u = ax) ∧ Hid (nxY ck qy u = ay) ∧ (((ck == 2) = true ∧ (ck == 3) = false ∧ ax = IntKind.i64.wrap (qx + IntKind.i64.wrap (z.r.w + 1)) ∧ ay = qy) ∨ ((ck == 2) = false ∧ (ck == 3) = true ∧ ax = qx ∧ ay = IntKind.i64.wrap (qy + IntKind.i64.wrap (z.r.h + 1))) ∨ ((ck == 2) = false ∧ (ck == 3) = false ∧ ax = qx ∧ ay = qy)) := by
          have hz := HZR.out
          by_cases h2 : ck = 2
          · subst h2; exact ⟨_, _, nxX_row, nxY_no (by decide), .inl ⟨rfl, rfl, by rw [wrap_a, hz], rfl⟩⟩
          · by_cases h3 : ck = 3
            · subst h3; exact ⟨_, _, nxX_no (by decide), nxY_col, .inr (.inl ⟨rfl, rfl, rfl, by rw [wrap_a, hz]⟩)⟩
            · exact ⟨_, _, nxX_no h2, nxY_no h3, .inr (.inr ⟨by simpa using h2, by simpa using h3, rfl, rfl⟩)⟩
        rcases hax with ⟨d2, d3, rfl, rfl⟩ | ⟨d2, d3, rfl, rfl⟩ | ⟨d2, d3, rfl, rfl⟩
        all_goals
          go_wp2_with fail
          refine HK.out.mono ?_
          rintro e w2 ⟨d, S2, rfl, hown2, hnd2, hb2⟩
          have HO2 := Lib.hid hown2
          have HN2 := Lib.hid hnd2
          have HB12 := Lib.hid (below_one hb2)
          have HB2 := Lib.hid (HB.out.trans ((below_one hb2).mono HB.out.size))
          have HSZ2 : Hid (wr.heap.size + 1 ≤ w2.heap.size) := Lib.hid (by have := hb2.size; simpa using this)
          have KX : Hid (Box7 (w2.alloc (cbox d)) wr.heap.size z) := Lib.hid (((Box7.new wr z).up hb2).up ((Below.refl _ _).alloc (Nat.le_refl _) _))
          clear hown2 hnd2 hb2 c0 c1 c2 c3 c4 c5 c6
          have HLN : Hid (cs.length + [d].length ≤ 1954687338211) := Lib.hid (by have := HF.out.len; rw [setL_length, List.length_take] at this; simp; omega)
          go_wp2_with (at_builtin; refine wpList_append_cells rfl _ _ rfl (setW w (setC ⟨ck, cr, cid, some ⟨b, o, none⟩, t.kids.length, ccap⟩ x y)).heap.size u7 _ cs [d] rfl (HF.out.row.up (HB12.out.trans ((Below.refl w2.heap.size w2).alloc (Nat.le_refl _) (cbox d) |>.mono HB12.out.size))) rfl (OwnC.one w2 0 (Nat.zero_le _) d).row (by simp) HLN.out (setW w (setC ⟨ck, cr, cid, some ⟨b, o, none⟩, t.kids.length, ccap⟩ x y)) (HB2.out.alloc HB2.out.size _) (Nat.le_refl _) ?_; intro g cap3 w3 hown3 hb3 hgr3 hpl3; have HF3 := Lib.hid (HF.out.add HB12.out HO2.out HN2.out (by simp) (by have := HB.out.size; exact Nat.le_trans this (by simp)) hown3 hgr3 hpl3); have KX3 := KX.out.grown hgr3 (fun e => by have := (own_block HF.out.row e).2; omega); have HB3 := Lib.hid hb3; clear hown3 hb3 hgr3 hpl3; obtain ⟨k0, k1, k2, k3, k4, k5, k6⟩ := KX3.cat; have BX3 := BX.out.up HB3.out; obtain ⟨b0, b1, b2, b3, b4, b5, b6⟩ := BX3.cat; simp only [Nat.zero_add] at k1 k2 k3 k4 k5 k6 b1 b2 b3 b4 b5 b6)
          go_wp2
          go_roundg (gk - 1)
          case measure => have := HG.out; omega
          case rel =>
            refine ⟨k + 1, cs ++ [d], Ss ++ [S2], by have := HG.out; omega, by omega, by go_num, (by rw [HPX.out, HNX.out]; try simp only [wrapE]), (by rw [HPY.out, HNY.out]; try simp only [wrapE]), ?_, HB3.out⟩
            rw [HSN.out]
            simpa using HF3.out
      · obtain rfl : k = t.kids.length := by omega
        have hkl : ((t.kids.length : Int) < (t.kids.length : Int)) = False := by simp
        have HFA : Hid (Forest wr (setW w (setC ⟨ck, cr, cid, ca, t.kids.length, ccap⟩ x y)).heap.size u7 cs (setL ck x y t.kids) Ss) := Lib.hid (by have := HF.out; rw [List.take_length] at this; exact this)
        obtain ⟨a', cap', rfl⟩ := HF.out.row.row.shape
        have HBX := Lib.hid (BX.out.up HB.out)
        have HZX := Lib.hid (zero_up ZX.out HB.out)
        obtain ⟨c0, c1, c2, c3, c4, c5, c6⟩ := HBX.out.cat
        simp only [Nat.zero_add] at c1 c2 c3 c4 c5 c6
        have g6 := HBX.out.free 6
        obtain ⟨⟨z0, z1, z2, z3, z4, z5, z6⟩, f0, f1, f2, f3, f4, f5, f6⟩ := zero_parts HZX.out
        go_wp2
        (try simp only [Exit.inBlock, Exit.then])
        have hset : (wr.setCell ⟨w.heap.size, 6, none⟩ (.slice a' cs.length cap')).heap[w.heap.size + 1]? = wr.heap[w.heap.size + 1]? := Below.heap_setCell wr ⟨w.heap.size, 6, none⟩ _ _ (by simp)
        have hz2 : Box7 (wr.setCell ⟨w.heap.size, 6, none⟩ (.slice a' cs.length cap')) (w.heap.size + 1) ⟨0, ⟨0, 0, 0, 0⟩, 0, none, 0, 0⟩ := hset.trans HZX.out
        refine bodyPost_ret (results_cell1 rfl _ _ (w.heap.size + 1) ⟨ck, ⟨x, y, cr.w, cr.h⟩, cid, a', cs.length, cap'⟩ rfl (hz2.put ⟨ck, ⟨x, y, cr.w, cr.h⟩, cid, a', cs.length, cap'⟩)) rfl ?_
        obtain ⟨e1, e2, e3, -⟩ := HSP.out
        have hend := set_end (k := ck) (r := ⟨x, y, cr.w, cr.h⟩) (id := cid) HBW.out (by have := HB.out.size; have := SW.out; omega) (by rw [← SW.out]; exact HFA.out) HFINE.out.1 ⟨HFX.out, HFY.out, HFINE.out.2.1.2.2⟩ HFINE.out.2.2.1 (by rw [setL_length]; exact hfn)
        refine ⟨⟨ck, ⟨x, y, cr.w, cr.h⟩, cid, a', cs.length, cap'⟩, blk (.slice a' cs.length cap') ++ Ss.flatten, rfl, ?_, hend.2.1, hend.2.2⟩
        rw [setT_eq, e1, e2, e3]
        exact hend.1
end Go.Proofs.Ytodcabaihhmhnaa
