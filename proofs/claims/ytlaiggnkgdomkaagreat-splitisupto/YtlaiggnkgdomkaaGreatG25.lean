/- Texts of this seat, 3 in one file. -/
import Derived.Test.YtlaiggnkgdomkaaGreatG24
import Derived.Test.YtlaiggnkgdomkaaGreatG21
import Derived.IntWalk
import Derived.Deep.RegionHeld3
/- A tree in which a leaf is two: the document's answer. -/
namespace Go.Proofs.YtlaiggnkgdomkaaGreat
open Go.RowKit

abbrev cellW (w : World) (c : C) : World := (w.alloc (cbox c)).alloc zeroBox
theorem cellW_below (w : World) (c : C) : Below w.heap.size w (cellW w c) := ((Below.refl _ _).alloc (Nat.le_refl _) _).alloc (by simp) _
theorem cellW_box (w : World) (c : C) : Box7 (cellW w c) w.heap.size c := (Box7.new w c).up ((Below.refl _ _).alloc (Nat.le_refl _) _)
theorem cellW_zero (w : World) (c : C) : Zero7 (cellW w c) (w.heap.size + 1) := by
  have := zero_new (w.alloc (cbox c))
  simpa using this
theorem cellW_size (w : World) (c : C) : (cellW w c).heap.size = w.heap.size + 2 := by simp

/-- A tree that stands on elder memory and what the call made. -/
def GrSays (E : World → Prop) (t : T) (w : World) (e : Ending) (w' : World) : Prop := ∃ d, e = .returned (cval d) ∧ Stands E w' w.heap.size w'.heap.size d t ∧ Below w.heap.size w w'
theorem gr_of {E : World → Prop} {w w' : World} {t t' : T} {d : C} (he : t' = t) (h : ∀ W, E W → Is W d t) (hb : Below w.heap.size w w') : GrSays E t' w (.returned (cval d)) w' := by
  subst he
  exact ⟨d, rfl, fun W' h0 _ => h W' h0, hb⟩
abbrev endW (w wr : World) (d : C) : World := put7 (wr.setCell ⟨w.heap.size, 6, none⟩ (.slice d.a d.n d.cap)) (w.heap.size + 1) d
theorem endW_other {w wr : World} {d : C} {k : Nat} (h1 : k ≠ w.heap.size) (h2 : k ≠ w.heap.size + 1) : (endW w wr d).heap[k]? = wr.heap[k]? := by
  rw [heap_put7 h2, Below.heap_setCell wr ⟨w.heap.size, 6, none⟩ _ k h1]
theorem endW_size (w wr : World) (d : C) : (endW w wr d).heap.size = wr.heap.size := by rw [size_put7]; simp [World.setCell]
theorem gr_end {E : World → Prop} {w wr : World} {k : Int} {r : R} {id : Int} {a : Option Addr} {cap : Nat} {cs : List C} {l : List T} {t' : T} (he : t' = .node k r id l) (hb : Below w.heap.size w wr) (h : Grove E wr (w.heap.size + 2) (.slice a cs.length cap) cs l) (hk : 0 ≤ k ∧ k ≤ 255) (hr : r.fits) (hi : fits id) (hl : l.length ≤ 1954687338211) :
    GrSays E t' w (.returned (cval ⟨k, r, id, a, cs.length, cap⟩)) (endW w wr ⟨k, r, id, a, cs.length, cap⟩) := by
  subst he
  refine ⟨_, rfl, ?_, below_put7 (hb.setCell (Nat.le_refl _) _) (by omega) _⟩
  have hst := h.tree (k := k) (r := r) (id := id) hk hr hi hl
  exact (hst.move (w2 := endW w wr ⟨k, r, id, a, cs.length, cap⟩) fun j hj _ => endW_other (by omega) (by omega)).wide (by omega) (by rw [endW_size]; exact Nat.le_refl _)

set_option maxHeartbeats 1000000 in
set_option maxRecDepth 100000 in
theorem rin_any (E : World → Prop) (w0 : World) (hE0 : ∀ W, E W → Eld w0 W) (hEb : ∀ W W', E W → Below W.heap.size W W' → E W') (id ax : Int) (va : Option Addr) (vcap : Nat) (ps : List C) (ls : List T) (hax : ax = 1 ∨ ax = 2) (hrow : ∀ W, E W → CRow W (.slice va 2 vcap) ps) (htops : ∀ W, Tops W ps ls) (hlen : ls.length = 2) (N : Nat) :
    ∀ (t : T) (c : C) (w : World), sz t ≤ N → sz t ≤ 100000 → Is w0 c t → Below w0.heap.size w0 w → E w → Calls Tryz.prog 24 #[cval c, .int .i64 id, .int .u8 ax, .slice va 2 vcap] w (GrSays E (inT id ax ls t) w) := by
  induction N with
  | zero => intro t c w h; have := sz_pos t; omega
  | succ N ih =>
    intro t c w hs hm hi hb0 hEw
    have HEW := Lib.hid hEw
    have HEB := Lib.hid hEb
    have HE0 := Lib.hid hE0
    clear hEw hEb hE0
    have HB0 := Lib.hid hb0
    have HIS := Lib.hid hi
    have HFINE := Lib.hid hi.fine
    have HR := Lib.hid hi.row
    have HSP := Lib.hid hi.split
    have hn := hi.n
    have hfn := hi.len
    have hpl : ps.length = 2 := by rw [(htops w).1, hlen]
    have HPL := Lib.hid hpl
    clear hpl
    have HIT := Lib.hid (inT_eq id ax ls t)
    obtain ⟨ck, cr, cid, ca, cn, ccap⟩ := c
    simp only at hn
    subst hn
    clear hi hb0
    have HS := Lib.hid hs
    have HM := Lib.hid hm
    have HIH := Lib.hid ih
    clear hs hm ih
    have BX : Hid (Box7 (cellW w ⟨ck, cr, cid, ca, t.kids.length, ccap⟩) w.heap.size ⟨ck, cr, cid, ca, t.kids.length, ccap⟩) := Lib.hid (cellW_box w _)
    have ZX : Hid (Zero7 (cellW w ⟨ck, cr, cid, ca, t.kids.length, ccap⟩) (w.heap.size + 1)) := Lib.hid (cellW_zero w _)
    have BW : Hid (Below w.heap.size w (cellW w ⟨ck, cr, cid, ca, t.kids.length, ccap⟩)) := Lib.hid (cellW_below w _)
    have SW : Hid ((cellW w ⟨ck, cr, cid, ca, t.kids.length, ccap⟩).heap.size = w.heap.size + 2) := Lib.hid (cellW_size w _)
    by_cases hk1 : ck = 1
    · have d1 : (ck == 1) = true := by simpa using hk1
      have ek : t.k = 1 := by have := HSP.out.1; simp only at this; rw [this]; exact hk1
      by_cases hid : cid = id
      · have d2 : (cid == id) = true := by simpa using hid
        have ei : t.id = id := by have := HSP.out.2.2.1; simp only at this; rw [this]; exact hid
        have er : t.r = cr := HSP.out.2.1
        have HE := Lib.hid (show inT id ax ls t = .node (ax + 1) cr 0 ls by rw [HIT.out, if_pos ek, if_pos ei, er])
        have HD : Hid (∀ kd : Int, 0 ≤ kd ∧ kd ≤ 255 → ∀ W, E W → Is W ⟨kd, cr, 0, va, 2, vcap⟩ (.node kd cr 0 ls)) := Lib.hid fun kd hkd W hW => .mk ⟨kd, cr, 0, va, 2, vcap⟩ ls ps (hrow W hW) (htops W).1 ⟨hkd, HFINE.out.2.1, by simp [fits], by show 2 ≤ _; omega⟩ (htops W).2
        clear hrow htops ek ei er hk1 hid
        rcases hax with rfl | rfl
        · go_enter Tryz.func24, Tryz.ntmps24
          go_wp2
          (try simp only [Exit.inBlock, Exit.then])
          refine bodyPost_ret (results_cell_row rfl _ _ (w.heap.size + 1) 26 _ (0, 0) _ rfl (heap_alloc2_new w _ (cbox ⟨2, cr, 0, va, 2, vcap⟩)) Tryz.underlying26 rfl (by kernel_rfl)) rfl ?_
          exact gr_of HE.out (HD.out 2 (by decide)) (pair_new w _ _ (Nat.le_refl _))
        · go_enter Tryz.func24, Tryz.ntmps24
          go_wp2
          (try simp only [Exit.inBlock, Exit.then])
          refine bodyPost_ret (results_cell_row rfl _ _ (w.heap.size + 1) 26 _ (0, 0) _ rfl (heap_alloc2_new w _ (cbox ⟨3, cr, 0, va, 2, vcap⟩)) Tryz.underlying26 rfl (by kernel_rfl)) rfl ?_
          exact gr_of HE.out (HD.out 3 (by decide)) (pair_new w _ _ (Nat.le_refl _))
      · have d2 : (cid == id) = false := by simpa using hid
        have ei : t.id ≠ id := by have := HSP.out.2.2.1; simp only at this; rw [this]; exact hid
        have HE := Lib.hid (show inT id ax ls t = t by rw [HIT.out, if_pos ek, if_neg ei])
        clear hrow htops hax ek ei hk1 hid
        go_enter Tryz.func24, Tryz.ntmps24
        go_wp2
        (try simp only [Exit.inBlock, Exit.then])
        refine bodyPost_ret (results_cell_row rfl _ _ (w.heap.size + 1) 26 _ (0, 0) _ rfl (heap_alloc2_new w _ (cbox ⟨ck, cr, cid, ca, t.kids.length, ccap⟩)) Tryz.underlying26 rfl (by kernel_rfl)) rfl ?_
        exact gr_of HE.out (fun W hW => HIS.out.same (HE0.out W hW)) (pair_new w _ _ (Nat.le_refl _))
    · have d1 : (ck == 1) = false := by simpa using hk1
      have ek : t.k ≠ 1 := by have := HSP.out.1; simp only at this; rw [this]; exact hk1
      have HE : Hid (inT id ax ls t = .node ck cr cid (inL id ax ls ck t.kids)) := Lib.hid (by
        obtain ⟨e1, e2, e3, -⟩ := HSP.out
        simp only at e1 e2 e3
        rw [HIT.out, if_neg ek, e1, e2, e3])
      have HPR := Lib.hid hrow
      have HPT := Lib.hid htops
      clear hrow htops ek hk1
      go_enter Tryz.func24, Tryz.ntmps24
      go_wp2
      go_loopg [9, 29] (t.kids.length + 1) (fun g v i wr => ∃ (k : Nat) (cs : List C), g + k = t.kids.length + 1 ∧ k ≤ t.kids.length ∧ i = .int .i64 k ∧ Grove E wr (cellW w ⟨ck, cr, cid, ca, t.kids.length, ccap⟩).heap.size v cs (inL id ax ls ck (t.kids.take k)) ∧ Below (cellW w ⟨ck, cr, cid, ca, t.kids.length, ccap⟩).heap.size (cellW w ⟨ck, cr, cid, ca, t.kids.length, ccap⟩) wr)
      case atStart => exact ⟨0, [], by omega, by omega, rfl, by simpa [inL] using Grove.empty E (cellW w ⟨ck, cr, cid, ca, t.kids.length, ccap⟩) _ (Nat.le_refl _), (Below.refl _ _).alloc (Nat.le_refl _) _⟩
      case round =>
        obtain ⟨k, cs, hg, hk, rfl, hgr, hb⟩ := hrel
        have HG := Lib.hid hg
        have HF := Lib.hid hgr
        have HB := Lib.hid hb
        clear hg hgr hb
        have HBW := Lib.hid (BW.out.trans (HB.out.mono BW.out.size))
        have HB0W := Lib.hid (HB0.out.trans (HBW.out.mono HB0.out.size))
        have HEWR := Lib.hid (HEB.out w wr HEW.out HBW.out)
        by_cases hlt : k < t.kids.length
        · have hlti : (k : Int) < (t.kids.length : Int) := by omega
          obtain ⟨b, o, rfl, hf⟩ := HR.out.place (by omega)
          obtain ⟨u, hu⟩ : ∃ u, t.kids[k]? = some u := ⟨_, List.getElem?_eq_getElem hlt⟩
          obtain ⟨z, hz, hiz⟩ := hf k u hu
          clear hf
          obtain ⟨c0, c1, c2, c3, c4, c5, c6⟩ := hz.up HB0W.out
          obtain ⟨s0, s1, s2, s3, s4, s5, s6⟩ := (BX.out.up HB.out).cat
          simp only [Nat.zero_add] at s1 s2 s3 s4 s5 s6
          have HK : Hid (∀ W, Below w0.heap.size w0 W → E W → Calls Tryz.prog 24 #[cval z, .int .i64 id, .int .u8 ax, .slice va 2 vcap] W (GrSays E (inT id ax ls u) W)) := Lib.hid fun W hW hEW => HIH.out u z W (by have := HS.out; have := sz_kid hu; omega) (by have := HM.out; have := sz_kid hu; omega) hiz hW hEW
          have HST := Lib.hid (inL_step (id := id) (ax := ax) (l := ls) (k := ck) hu)
          have hzk := hiz.split.1
          have hzi := hiz.split.2.2.1
          have HKB := Lib.hid (show inK id ax ls ck u = if z.k = 1 ∧ z.id = id ∧ alB ck ax = true then ls else [inT id ax ls u] by unfold inK; rw [hzk, hzi])
          have HLC := Lib.hid (show cs.length ≤ 100000 * 3 by
            have h1 := HF.out.len
            have h2 := inL_len id ax ls ck (t.kids.take k)
            have h3 := HM.out
            have h4 := sz_node t
            have h5 := szL_len t.kids
            rw [hlen] at h2
            rw [List.length_take] at h2
            rw [h1]
            refine Nat.le_trans h2 (Nat.mul_le_mul ?_ (by omega))
            omega)
          have HZ := Lib.hid hz
          clear hiz hz hu hzk hzi
          have hcase : ((z.k == 1) = false ∧ inK id ax ls ck u = [inT id ax ls u]) ∨ ((z.k == 1) = true ∧ (z.id == id) = false ∧ inK id ax ls ck u = [inT id ax ls u]) ∨ ((z.k == 1) = true ∧ (z.id == id) = true ∧ ((alB ck ax = false ∧ inK id ax ls ck u = [inT id ax ls u]) ∨ (alB ck ax = true ∧ inK id ax ls ck u = ls))) := by
            by_cases h1 : z.k = 1
            · by_cases h2 : z.id = id
              · cases h3 : alB ck ax with
                | false => exact .inr (.inr ⟨by simpa using h1, by simpa using h2, .inl ⟨rfl, by rw [HKB.out, if_neg (by simp [h3])]⟩⟩)
                | true => exact .inr (.inr ⟨by simpa using h1, by simpa using h2, .inr ⟨rfl, by rw [HKB.out, if_pos ⟨h1, h2, h3⟩]⟩⟩)
              · exact .inr (.inl ⟨by simpa using h1, by simpa using h2, by rw [HKB.out, if_neg (by simp [h2])]⟩)
            · exact .inl ⟨by simpa using h1, by rw [HKB.out, if_neg (by simp [h1])]⟩
          rcases hcase with ⟨t1, hin⟩ | ⟨t1, t2, hin⟩ | ⟨t1, t2, ⟨t3, hin⟩ | ⟨t3, hin⟩⟩
          · have HIN := Lib.hid hin
            clear hin
            go_wp2_with fail
            refine (HK.out wr HB0W.out HEWR.out).mono ?_
            rintro e w2 ⟨d, rfl, hst, hb2⟩
            have HD := Lib.hid hst
            have HB12 := Lib.hid hb2
            have HB2 := Lib.hid (HB.out.trans (HB12.out.mono HB.out.size))
            clear hst hb2 c0 c1 c2 c3 c4 c5 c6 s0 s1 s2 s3 s4 s5 s6
            go_wp2_with (at_builtin; refine wpList_append_cells rfl _ _ rfl (cellW w ⟨ck, cr, cid, some ⟨b, o, none⟩, t.kids.length, ccap⟩).heap.size u9 _ cs [d] rfl (HF.out.row.up (HB12.out.trans (((Below.refl w2.heap.size w2).alloc (Nat.le_refl _) (cbox d)).mono HB12.out.size))) rfl (OwnC.one w2 0 (Nat.zero_le _) d).row (by simp) (by have := HLC.out; simp only [List.length_cons, List.length_nil]; omega) (cellW w ⟨ck, cr, cid, some ⟨b, o, none⟩, t.kids.length, ccap⟩) (HB2.out.alloc HB2.out.size _) (Nat.le_refl _) ?_; intro g cap3 w3 hown3 hb3 hgr3 hpl3)
            have HF3 := Lib.hid (HF.out.one HB12.out ((Below.refl _ _).alloc (Nat.le_refl _) (cbox d)) HB.out.size HD.out hown3 hgr3 hpl3)
            have HB3 := Lib.hid hb3
            clear hown3 hb3 hgr3 hpl3
            go_wp2
            go_roundg (gk - 1)
            case measure => have := HG.out; omega
            case rel =>
              refine ⟨k + 1, cs ++ [d], by have := HG.out; omega, by omega, by go_num, ?_, HB3.out⟩
              rw [HST.out, HIN.out]
              simpa using HF3.out
          · have _t2 := t2
            have HIN := Lib.hid hin
            clear hin
            go_wp2_with fail
            refine (HK.out wr HB0W.out HEWR.out).mono ?_
            rintro e w2 ⟨d, rfl, hst, hb2⟩
            have HD := Lib.hid hst
            have HB12 := Lib.hid hb2
            have HB2 := Lib.hid (HB.out.trans (HB12.out.mono HB.out.size))
            clear hst hb2 c0 c1 c2 c3 c4 c5 c6 s0 s1 s2 s3 s4 s5 s6
            go_wp2_with (at_builtin; refine wpList_append_cells rfl _ _ rfl (cellW w ⟨ck, cr, cid, some ⟨b, o, none⟩, t.kids.length, ccap⟩).heap.size u9 _ cs [d] rfl (HF.out.row.up (HB12.out.trans (((Below.refl w2.heap.size w2).alloc (Nat.le_refl _) (cbox d)).mono HB12.out.size))) rfl (OwnC.one w2 0 (Nat.zero_le _) d).row (by simp) (by have := HLC.out; simp only [List.length_cons, List.length_nil]; omega) (cellW w ⟨ck, cr, cid, some ⟨b, o, none⟩, t.kids.length, ccap⟩) (HB2.out.alloc HB2.out.size _) (Nat.le_refl _) ?_; intro g cap3 w3 hown3 hb3 hgr3 hpl3)
            have HF3 := Lib.hid (HF.out.one HB12.out ((Below.refl _ _).alloc (Nat.le_refl _) (cbox d)) HB.out.size HD.out hown3 hgr3 hpl3)
            have HB3 := Lib.hid hb3
            clear hown3 hb3 hgr3 hpl3
            go_wp2
            go_roundg (gk - 1)
            case measure => have := HG.out; omega
            case rel =>
              refine ⟨k + 1, cs ++ [d], by have := HG.out; omega, by omega, by go_num, ?_, HB3.out⟩
              rw [HST.out, HIN.out]
              simpa using HF3.out
          · have HIN := Lib.hid hin
            clear hin
            go_wp2_with fail
            refine (ralong_any ⟨ck, cr, cid, some ⟨b, o, none⟩, t.kids.length, ccap⟩ ax wr).mono ?_
            rintro e w1 ⟨rfl, hb1⟩
            rw [t3]
            have HB01 := Lib.hid (HB0W.out.trans (hb1.mono HB0W.out.size))
            have HB1 := Lib.hid hb1
            clear hb1 c0 c1 c2 c3 c4 c5 c6 s0 s1 s2 s3 s4 s5 s6
            obtain ⟨c0, c1, c2, c3, c4, c5, c6⟩ := HZ.out.up HB01.out
            obtain ⟨s0, s1, s2, s3, s4, s5, s6⟩ := ((BX.out.up HB.out).up HB1.out).cat
            simp only [Nat.zero_add] at s1 s2 s3 s4 s5 s6
            go_wp2_with fail
            refine (HK.out w1 HB01.out (HEB.out wr w1 HEWR.out HB1.out)).mono ?_
            rintro e w2 ⟨d, rfl, hst, hb2⟩
            have HD := Lib.hid (hst.wide HB1.out.size (Nat.le_refl _))
            have HB12 := Lib.hid (HB1.out.trans (hb2.mono HB1.out.size))
            have HB2 := Lib.hid (HB.out.trans (HB12.out.mono HB.out.size))
            clear hst hb2 c0 c1 c2 c3 c4 c5 c6 s0 s1 s2 s3 s4 s5 s6
            go_wp2_with (at_builtin; refine wpList_append_cells rfl _ _ rfl (cellW w ⟨ck, cr, cid, some ⟨b, o, none⟩, t.kids.length, ccap⟩).heap.size u9 _ cs [d] rfl (HF.out.row.up (HB12.out.trans (((Below.refl w2.heap.size w2).alloc (Nat.le_refl _) (cbox d)).mono HB12.out.size))) rfl (OwnC.one w2 0 (Nat.zero_le _) d).row (by simp) (by have := HLC.out; simp only [List.length_cons, List.length_nil]; omega) (cellW w ⟨ck, cr, cid, some ⟨b, o, none⟩, t.kids.length, ccap⟩) (HB2.out.alloc HB2.out.size _) (Nat.le_refl _) ?_; intro g cap3 w3 hown3 hb3 hgr3 hpl3)
            have HF3 := Lib.hid (HF.out.one HB12.out ((Below.refl _ _).alloc (Nat.le_refl _) (cbox d)) HB.out.size HD.out hown3 hgr3 hpl3)
            have HB3 := Lib.hid hb3
            clear hown3 hb3 hgr3 hpl3
            go_wp2
            go_roundg (gk - 1)
            case measure => have := HG.out; omega
            case rel =>
              refine ⟨k + 1, cs ++ [d], by have := HG.out; omega, by omega, by go_num, ?_, HB3.out⟩
              rw [HST.out, HIN.out]
              simpa using HF3.out
          · have HIN := Lib.hid hin
            clear hin
            go_wp2_with fail
            refine (ralong_any ⟨ck, cr, cid, some ⟨b, o, none⟩, t.kids.length, ccap⟩ ax wr).mono ?_
            rintro e w1 ⟨rfl, hb1⟩
            rw [t3]
            have HB01 := Lib.hid (HB0W.out.trans (hb1.mono HB0W.out.size))
            have HB1 := Lib.hid hb1
            have HB2 := Lib.hid (HB.out.trans (hb1.mono HB.out.size))
            clear hb1 c0 c1 c2 c3 c4 c5 c6 s0 s1 s2 s3 s4 s5 s6
            go_wp2_with (at_builtin; refine wpList_append_cells rfl _ _ rfl (cellW w ⟨ck, cr, cid, some ⟨b, o, none⟩, t.kids.length, ccap⟩).heap.size u9 _ cs ps rfl (HF.out.row.up HB1.out) rfl (HPR.out w1 (HEB.out wr w1 HEWR.out HB1.out)) (by have := HPL.out; omega) (by have := HLC.out; have := HPL.out; omega) (cellW w ⟨ck, cr, cid, some ⟨b, o, none⟩, t.kids.length, ccap⟩) HB2.out (Nat.le_refl _) ?_; intro g cap3 w3 hown3 hb3 hgr3 hpl3)
            have HF3 := Lib.hid (HF.out.add HB1.out (Below.refl _ _) (HPT.out w1).1 (fun j x y hx hy => ⟨_, _, Nat.le_refl _, .inr (Nat.le_refl _), HB2.out.size, fun W' _ _ => (HPT.out W').2 j x y hx hy⟩) hown3 hgr3 hpl3)
            have HB3 := Lib.hid hb3
            clear hown3 hb3 hgr3 hpl3
            go_wp2
            go_roundg (gk - 1)
            case measure => have := HG.out; omega
            case rel =>
              refine ⟨k + 1, cs ++ ps, by have := HG.out; omega, by omega, by go_num, ?_, HB3.out⟩
              rw [HST.out, HIN.out]
              simpa using HF3.out
        · obtain rfl : k = t.kids.length := by omega
          have hkl : ((t.kids.length : Int) < (t.kids.length : Int)) = False := by simp
          have HFA : Hid (Grove E wr (w.heap.size + 2) u9 cs (inL id ax ls ck t.kids)) := Lib.hid (by have := HF.out; rw [List.take_length, SW.out] at this; exact this)
          obtain ⟨a', cap', rfl⟩ := HF.out.row.row.shape
          have HBX := Lib.hid (BX.out.up HB.out)
          have HZX := Lib.hid (zero_up ZX.out HB.out)
          obtain ⟨c0, c1, c2, c3, c4, c5, c6⟩ := HBX.out.cat
          simp only [Nat.zero_add] at c1 c2 c3 c4 c5 c6
          have g6 := HBX.out.free 6
          obtain ⟨⟨z0, z1, z2, z3, z4, z5, z6⟩, f0, f1, f2, f3, f4, f5, f6⟩ := zero_parts HZX.out
          go_wp2
          (try simp only [Exit.inBlock, Exit.then])
          have hset : (wr.setCell ⟨w.heap.size, 6, none⟩ (.slice a' cs.length cap')).heap[w.heap.size + 1]? = wr.heap[w.heap.size + 1]? := Below.heap_setCell wr ⟨w.heap.size, 6, none⟩ _ _ (by simp)
          have hz2 : Box7 (wr.setCell ⟨w.heap.size, 6, none⟩ (.slice a' cs.length cap')) (w.heap.size + 1) ⟨0, ⟨0, 0, 0, 0⟩, 0, none, 0, 0⟩ := hset.trans HZX.out
          refine bodyPost_ret (results_cell1 rfl _ _ (w.heap.size + 1) ⟨ck, cr, cid, a', cs.length, cap'⟩ rfl (hz2.put ⟨ck, cr, cid, a', cs.length, cap'⟩)) rfl ?_
          exact gr_end HE.out HBW.out HFA.out HFINE.out.1 HFINE.out.2.1 HFINE.out.2.2.1 (by
            have h2 := inL_len id ax ls ck t.kids
            have h3 := HM.out
            have h4 := sz_node t
            have h5 := szL_len t.kids
            rw [hlen] at h2
            omega)
end Go.Proofs.YtlaiggnkgdomkaaGreat
/- The least size of a tree: the program's walk. -/
namespace Go.Proofs.YtlaiggnkgdomkaaGreat
open Go.RowKit

theorem ls_fin {ax : Int} {t : T} (h : okT t) (a : Bool) (ha : alB t.k ax = a) : lsT ax t = if a = true then ((t.kids.length : Int) - 1) + lsS ax t.kids else max 1 (lsX ax t.kids) := by
  cases a with
  | true => rw [ls_yes h ha, if_pos rfl]; omega
  | false => rw [ls_no ha, if_neg (by decide)]

set_option maxRecDepth 100000 in
set_option maxHeartbeats 800000 in
theorem least_any (ax : Int) (N : Nat) : ∀ (t : T) (c : C) (w : World), sz t ≤ N → sz t ≤ 1000000 → okT t → Is w c t →
    Calls Tryz.prog 85 #[cval c, .int .u8 ax] w fun e w' => e = .returned (.int .i64 (lsT ax t)) ∧ Below w.heap.size w w' := by
  induction N with
  | zero => intro t c w h; have := sz_pos t; omega
  | succ N ih =>
    intro t c w hs hm hok hi
    have HR := Lib.hid hi.row
    have HKK := Lib.hid hi.split.1
    have hn := hi.n
    have hfn := hi.fine.2.2.2
    obtain ⟨ck, cr, cid, ca, cn, ccap⟩ := c
    simp only at hn hfn HKK
    subst hn
    clear hi
    have HS := Lib.hid hs
    have HM := Lib.hid hm
    have HOK := Lib.hid hok
    have HIH := Lib.hid ih
    have HKL : Hid (t.kids.length ≤ 1000000) := Lib.hid (kids_le hm)
    have HSL : Hid (szL t.kids ≤ 1000000) := Lib.hid (by have := sz_node t; omega)
    clear hs hm ih hok
    have hkl1 : t.kids.length ≤ 1000000 := HKL.out
    have HFN := Lib.hid (ls_fin (ax := ax) HOK.out _ rfl)
    generalize lsT ax t = ll at HFN ⊢
    go_enter Tryz.func85, Tryz.ntmps85
    go_wp2
    go_loopg [5, 6, 17] (t.kids.length + 1) (fun g s x i wr => ∃ k : Nat, g + k = t.kids.length + 1 ∧ k ≤ t.kids.length ∧ i = .int .i64 k ∧ s = .int .i64 (((t.kids.length : Int) - 1) + lsS ax (t.kids.take k)) ∧ x = .int .i64 (max 1 (lsX ax (t.kids.take k))) ∧ Below (w.alloc (cbox ⟨ck, cr, cid, ca, t.kids.length, ccap⟩)).heap.size (w.alloc (cbox ⟨ck, cr, cid, ca, t.kids.length, ccap⟩)) wr)
    case atStart => exact ⟨0, by omega, by omega, rfl, by simp [lsS], by simp [lsX]; rfl, Below.refl _ _⟩
    case round =>
      obtain ⟨k, hg, hk, rfl, rfl, rfl, hb⟩ := hrel
      have HG := Lib.hid hg
      have HB := Lib.hid hb
      clear hg hb
      by_cases hlt : k < t.kids.length
      · have hlti : (k : Int) < (t.kids.length : Int) := by omega
        obtain ⟨b, o, rfl, hf⟩ := HR.out.place (by omega)
        obtain ⟨u, hu⟩ : ∃ u, t.kids[k]? = some u := ⟨_, List.getElem?_eq_getElem hlt⟩
        obtain ⟨x, hx, hix⟩ := hf k u hu
        clear hf
        obtain ⟨c0, c1, c2, c3, c4, c5, c6⟩ := hx.up (below_one HB.out)
        have HA : Hid (Below wr.heap.size wr (wr.alloc (cbox x))) := (Below.refl _ _).alloc (Nat.le_refl _) _
        have HK := Lib.hid (HIH.out u x (wr.alloc (cbox x)) (by have := HS.out; have := sz_kid hu; omega) (by have := HM.out; have := sz_kid hu; omega) (ok_kid HOK.out hu) ((hix.up (below_one HB.out)).up HA.out))
        have HST := Lib.hid (lsS_step (ax := ax) hu)
        have HXT := Lib.hid (lsX_step (ax := ax) hu)
        have hp1 := ls_pos ax u
        have hp2 : lsT ax u ≤ 2000000 := by have := ls_sz ax u; have := sz_kid hu; have := HM.out; omega
        have hp3 := lsS_pos ax (t.kids.take k)
        have hp4 : lsS ax (t.kids.take k) ≤ 2000000 := by have := lsS_sz ax (t.kids.take k); have := szL_take_le t.kids k; have := HSL.out; omega
        have hp5 := lsX_nonneg ax (t.kids.take k)
        clear hix hu hx
        generalize lsS ax (t.kids.take k) = m at HST hp3 hp4 ⊢
        generalize lsX ax (t.kids.take k) = mx at HXT hp5 ⊢
        generalize lsT ax u = dd at HK HST HXT hp1 hp2
        go_wp2_with fail
        refine HK.out.mono ?_
        rintro e w2 ⟨rfl, hb2⟩
        have HB2 := Lib.hid (HB.out.trans ((below_one hb2).mono HB.out.size))
        clear hb2 c0 c1 c2 c3 c4 c5 c6
        have HMX : Hid (max (max 1 mx) dd = max 1 (lsX ax (t.kids.take (k + 1)))) := Lib.hid (by rw [HXT.out]; omega)
        generalize max (1 : Int) mx = X at HMX ⊢
        obtain ⟨Z, hZ⟩ : ∃ Z : Int, max X dd = Z := ⟨_, rfl⟩
        go_wp2
        go_roundg (gk - 1)
        case measure => have := HG.out; omega
        case rel =>
          refine ⟨k + 1, by have := HG.out; omega, by omega, by go_num, ?_, ?_, HB2.out⟩
          · rw [HST.out, ← Int.add_assoc]
          · rw [← HMX.out, hZ]
      · obtain rfl : k = t.kids.length := by omega
        have hkl : ((t.kids.length : Int) < (t.kids.length : Int)) = False := by simp
        rw [List.take_length]
        have HAL := Lib.hid (along8_any ⟨ck, cr, cid, ca, t.kids.length, ccap⟩ ax wr)
        rw [HKK.out] at HFN
        obtain ⟨c0, c1, c2, c3, c4, c5, c6⟩ := box_at HB.out
        simp only [Nat.zero_add] at c1 c2 c3 c4 c5 c6
        simp only at HAL
        generalize lsS ax t.kids = m at HFN ⊢
        generalize lsX ax t.kids = mx at HFN ⊢
        generalize alB ck ax = a at HAL HFN
        go_wp2_with fail
        refine HAL.out.mono ?_
        rintro e w2 ⟨rfl, hb2⟩
        have HB2 := Lib.hid (HB.out.trans (hb2.mono HB.out.size))
        clear hb2 c0 c1 c2 c3 c4 c5 c6
        cases a with
        | true =>
          have HF2 : Hid (ll = ((t.kids.length : Int) - 1) + m) := Lib.hid (by have := HFN.out; rw [if_pos rfl] at this; exact this)
          clear HFN
          go_wp2
          go_ret
          exact ⟨ret_int HF2.out.symm, below_one HB2.out⟩
        | false =>
          have HF2 : Hid (ll = max 1 mx) := Lib.hid (by have := HFN.out; rw [if_neg (by decide)] at this; exact this)
          clear HFN
          go_wp2
          go_ret
          exact ⟨ret_int HF2.out.symm, below_one HB2.out⟩
end Go.Proofs.YtlaiggnkgdomkaaGreat
/- Least, Gives, Fits: the program's. -/
namespace Go.Proofs.YtlaiggnkgdomkaaGreat
open Go.RowKit

abbrev C7 (b : Nat) (c : C) (W : World) : Prop := W.cell? ⟨b, 0, none⟩ = some (.int .u8 c.k) ∧ W.cell? ⟨b, 1, none⟩ = some (.int .i64 c.r.x) ∧ W.cell? ⟨b, 2, none⟩ = some (.int .i64 c.r.y) ∧ W.cell? ⟨b, 3, none⟩ = some (.int .i64 c.r.w) ∧ W.cell? ⟨b, 4, none⟩ = some (.int .i64 c.r.h) ∧ W.cell? ⟨b, 5, none⟩ = some (.int .i64 c.id) ∧ W.cell? ⟨b, 6, none⟩ = some (.slice c.a c.n c.cap)
theorem c7_of {W : World} {b : Nat} {c : C} (h : CAt W b 0 c) : C7 b c W := by
  obtain ⟨c0, c1, c2, c3, c4, c5, c6⟩ := h
  simp only [Nat.zero_add] at c1 c2 c3 c4 c5 c6
  exact ⟨c0, c1, c2, c3, c4, c5, c6⟩

def leT (ax : Int) (t : T) : Int := if mayT t = true ∧ axB ax = true then lsT ax t else 0
theorem le_yes {ax : Int} {t : T} (h : mayT t = true) (ha : axB ax = true) : leT ax t = lsT ax t := if_pos ⟨h, ha⟩
theorem le_may {ax : Int} {t : T} (h : mayT t = false) : leT ax t = 0 := if_neg (fun e => by rw [h] at e; cases e.1)
theorem le_axis {ax : Int} {t : T} (h : axB ax = false) : leT ax t = 0 := if_neg (fun e => by rw [h] at e; cases e.2)
noncomputable def giT (ax : Int) (t : T) : Int := if tileB t = true ∧ axB ax = true then gvT ax t else 0
theorem gi_yes {ax : Int} {t : T} (h : tileB t = true) (ha : axB ax = true) : giT ax t = gvT ax t := if_pos ⟨h, ha⟩
theorem gi_tile {ax : Int} {t : T} (h : tileB t = false) : giT ax t = 0 := if_neg (fun e => by rw [h] at e; cases e.1)
theorem gi_axis {ax : Int} {t : T} (h : axB ax = false) : giT ax t = 0 := if_neg (fun e => by rw [h] at e; cases e.2)
def roomB (ax s : Int) (t : T) : Bool := decide (lsT ax t ≤ s) && decide (s ≤ 10000 - atA t.r ax)
def fits8 (t : T) (w h : Int) : Bool := mayT t && roomB 1 w t && roomB 2 h t

/-- May, of one. -/
theorem may8_any (t : T) (c : C) (w : World) (hi : Is w c t) (n : Nat) (hn : n = w.heap.size) :
    Calls Tryz.prog 51 #[.slice (some ⟨n, 0, none⟩) 1 1] (w.alloc (cbox c)) fun e w' => e = .returned (.bool (mayT t)) ∧ Below w.heap.size w w' := by
  subst hn
  refine (mayAll_any _ [t] _ (trow1 hi) (by simp)).mono ?_
  rintro e w' ⟨rfl, hb⟩
  exact ⟨by simp, below_one hb⟩

set_option maxRecDepth 100000 in
set_option maxHeartbeats 800000 in
theorem giv_any (t : T) (c : C) (ax : Int) (w : World) (hi : Is w c t) (hs : mayT t = true → sz t ≤ 20000) : Calls Tryz.prog 61 #[cval c, .int .u8 ax] w fun e w' => e = .returned (.int .i64 (giT ax t)) ∧ Below w.heap.size w w' := by
  have HA : Hid (Below w.heap.size w (w.alloc (cbox c))) := (Below.refl _ _).alloc (Nat.le_refl _) _
  have HC := Lib.hid (cbox_new w c)
  have HM := Lib.hid (tilesOne_any t c (w.alloc (cbox c)) (hi.up HA.out) hs (w.heap.size + 1) (by simp))
  have HCR := Lib.hid hi.split.2.1
  have HI := Lib.hid hi
  clear hi
  cases hm : tileB t with
  | false =>
    rw [hm] at HM
    have HV := Lib.hid (gi_tile (ax := ax) hm)
    clear hm
    go_enter Tryz.func61, Tryz.ntmps61
    go_wp2_with fail
    refine HM.out.mono ?_
    rintro e w2 ⟨rfl, hb2⟩
    have B2 := Lib.hid (HA.out.trans (hb2.mono HA.out.size))
    clear hb2
    go_wp2
    go_ret
    exact ⟨ret_int HV.out.symm, B2.out⟩
  | true =>
    rw [hm] at HM
    cases ha : axB ax with
    | false =>
      have HV := Lib.hid (gi_axis (ax := ax) (t := t) ha)
      have HX := Lib.hid (fun W => isAxis_any ax W)
      rw [ha] at HX
      clear hm ha
      go_enter Tryz.func61, Tryz.ntmps61
      go_wp2_with fail
      refine HM.out.mono ?_
      rintro e w2 ⟨rfl, hb2⟩
      have B2 := Lib.hid (HA.out.trans (hb2.mono HA.out.size))
      clear hb2
      go_wp2_with fail
      refine (HX.out w2).mono ?_
      rintro e w3 ⟨rfl, rfl⟩
      go_wp2
      go_ret
      exact ⟨ret_int HV.out.symm, B2.out⟩
    | true =>
      have HX := Lib.hid (fun W => isAxis_any ax W)
      rw [ha] at HX
      have hmy := tile_may hm
      have HL := Lib.hid (fun W (h : Is W c t) => least_any ax (sz t) t c W (Nat.le_refl _) (by have := may_small hmy; omega) (ok_may hmy) h)
      have HZ := Lib.hid (fun W => lsize_any c.r ax W)
      have hr := szA_pos (well_rect (tile_top (hs hmy) hm).1) ((axB_iff ax).1 ha)
      have h1 := ls_pos ax t
      have h2 : lsT ax t ≤ 40000 := by have := ls_sz ax t; have := hs hmy; omega
      rw [HCR.out] at hr
      rw [gi_yes hm ha, gvT, HCR.out]
      clear hm ha hmy hs
      generalize lsT ax t = ll at HL h1 h2 ⊢
      have hr1 := hr.1
      have hr2 : szA c.r ax ≤ 10000 := by omega
      clear hr
      generalize szA c.r ax = ss at HZ hr1 hr2 ⊢
      go_enter Tryz.func61, Tryz.ntmps61
      go_wp2_with fail
      refine HM.out.mono ?_
      rintro e w2 ⟨rfl, hb2⟩
      have B2 := Lib.hid (HA.out.trans (hb2.mono HA.out.size))
      have D2 := Lib.hid (HC.out.up hb2)
      clear hb2
      go_wp2_with fail
      refine (HX.out w2).mono ?_
      rintro e w3 ⟨rfl, rfl⟩
      have BD := Lib.hid B2.out.drew
      have DD : Hid (CAt w2.drew w.heap.size 0 c) := Lib.hid D2.out
      have S0 := Lib.hid (c7_of DD.out)
      go_wp2_with fail
      go_region_held3 (fun W => W.cell? ⟨w.heap.size, 0, none⟩ = some (.int .u8 c.k) ∧ W.cell? ⟨w.heap.size, 1, none⟩ = some (.int .i64 c.r.x) ∧ W.cell? ⟨w.heap.size, 2, none⟩ = some (.int .i64 c.r.y) ∧ W.cell? ⟨w.heap.size, 3, none⟩ = some (.int .i64 c.r.w) ∧ W.cell? ⟨w.heap.size, 4, none⟩ = some (.int .i64 c.r.h) ∧ W.cell? ⟨w.heap.size, 5, none⟩ = some (.int .i64 c.id) ∧ W.cell? ⟨w.heap.size, 6, none⟩ = some (.slice c.a c.n c.cap)) (first | with_reducible exact S0.out | with_reducible exact S1.out | with_reducible exact S2.out)
        (first
          | (go_at_call 17; (with_reducible refine (HZ.out w2.drew).mono ?_); rintro e y1 ⟨rfl, hb1⟩; have E1 := Lib.hid (BD.out.trans (hb1.mono BD.out.size)); have D1 := Lib.hid (DD.out.up hb1); have S1 := Lib.hid (c7_of (DD.out.up hb1)); clear hb1)
          | (go_at_call 85; (with_reducible refine (HL.out y1 (HI.out.up E1.out)).mono ?_); rintro e y2 ⟨rfl, hb2⟩; have E2 := Lib.hid (E1.out.trans (hb2.mono E1.out.size)); have S2 := Lib.hid (c7_of (D1.out.up hb2)); clear hb2))
      go_wp2
      go_ret
      exact ⟨ret_int (wrap_id (by omega)), E2.out⟩

end Go.Proofs.YtlaiggnkgdomkaaGreat
