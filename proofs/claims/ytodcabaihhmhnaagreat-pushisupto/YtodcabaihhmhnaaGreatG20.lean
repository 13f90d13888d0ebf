/- Texts of this seat, 3 in one file. -/
import Derived.Test.YtodcabaihhmhnaaGreatG19
import Derived.Test.YtodcabaihhmhnaaGreatG14
import Derived.Deep.AppendLies
import Derived.Test.YtodcabaihhmhnaaGreatG12
import Derived.Deep.RegionHeld3
/- Set, the document's walk. -/
namespace Go.Proofs.YtodcabaihhmhnaaGreat
open Go.RowKit

set_option maxRecDepth 100000 in
theorem rset_any (N : Nat) : ∀ (t : T) (c : C) (x y : Int) (w : World), sz t ≤ N → fits x → fits y → Is w c t → Calls Tryz.prog 21 #[cval c, .int .i64 x, .int .i64 y] w (SetSays (setT x y t) w) := by
  induction N with
  | zero => intro t c x y w h; have := sz_pos t; omega
  | succ N ih =>
    intro t c x y w hs hfx hfy hi
    have HFX := Lib.hid hfx
    have HFY := Lib.hid hfy
    have HFINE := Lib.hid hi.fine
    have HR := Lib.hid hi.row
    have HSP := Lib.hid hi.split
    have hn := hi.n
    have hfn := hi.len
    obtain ⟨ck, cr, cid, ca, cn, ccap⟩ := c
    simp only at hn
    subst hn
    clear hi hfx hfy
    have HS := Lib.hid hs
    have HIH := Lib.hid ih
    clear hs ih
    have BX : Hid (Box7 (setW w (setC ⟨ck, cr, cid, ca, t.kids.length, ccap⟩ x y)) w.heap.size (setC ⟨ck, cr, cid, ca, t.kids.length, ccap⟩ x y)) := Lib.hid ((Box7.new w _).up ((Below.refl _ _).alloc (Nat.le_refl _) _))
    have ZX : Hid (Zero7 (setW w (setC ⟨ck, cr, cid, ca, t.kids.length, ccap⟩ x y)) (w.heap.size + 1)) := Lib.hid (by
      have := zero_new (w.alloc (cbox (setC ⟨ck, cr, cid, ca, t.kids.length, ccap⟩ x y)))
      simpa using this)
    have BW : Hid (Below w.heap.size w (setW w (setC ⟨ck, cr, cid, ca, t.kids.length, ccap⟩ x y))) := ((Below.refl _ _).alloc (Nat.le_refl _) _).alloc (by simp) _
    have SW : Hid ((setW w (setC ⟨ck, cr, cid, ca, t.kids.length, ccap⟩ x y)).heap.size = w.heap.size + 2) := Lib.hid (by simp)
    go_enter Tryz.func21, Tryz.ntmps21
    go_wp2
    go_loopg [1, 2, 7, 19] (t.kids.length + 1) (fun g vx vy v i wr => ∃ (k : Nat) (cs : List C) (Ss : List (List Nat)), g + k = t.kids.length + 1 ∧ k ≤ t.kids.length ∧ i = .int .i64 k ∧ vx = .int .i64 (pX ck x (t.kids.take k)) ∧ vy = .int .i64 (pY ck y (t.kids.take k)) ∧ Forest wr (setW w (setC ⟨ck, cr, cid, ca, t.kids.length, ccap⟩ x y)).heap.size v cs (setL ck x y (t.kids.take k)) Ss ∧ Below (setW w (setC ⟨ck, cr, cid, ca, t.kids.length, ccap⟩ x y)).heap.size (setW w (setC ⟨ck, cr, cid, ca, t.kids.length, ccap⟩ x y)) wr)
    case atStart => exact ⟨0, [], [], by omega, by omega, rfl, by simp [pX], by simp [pY], by simpa [setL] using Forest.empty (setW w (setC ⟨ck, cr, cid, ca, t.kids.length, ccap⟩ x y)) _ (Nat.le_refl _), (Below.refl _ _).alloc (Nat.le_refl _) _⟩
    case round =>
      obtain ⟨k, cs, Ss, hg, hk, rfl, rfl, rfl, hfo, hb⟩ := hrel
      have HG := Lib.hid hg
      have HF := Lib.hid hfo
      have HB := Lib.hid hb
      clear hg hfo hb
      have HBW := Lib.hid (BW.out.trans (HB.out.mono BW.out.size))
      by_cases hlt : k < t.kids.length
      · have hlti : (k : Int) < (t.kids.length : Int) := by omega
        obtain ⟨b, o, rfl, hf⟩ := HR.out.place (by omega)
        obtain ⟨u, hu⟩ : ∃ u, t.kids[k]? = some u := ⟨_, List.getElem?_eq_getElem hlt⟩
        obtain ⟨z, hz, hiz⟩ := hf k u hu
        clear hf
        obtain ⟨c0, c1, c2, c3, c4, c5, c6⟩ := hz.up HBW.out
        obtain ⟨s0, s1, s2, s3, s4, s5, s6⟩ := (BX.out.up HB.out).cat
        simp only [Nat.zero_add] at s1 s2 s3 s4 s5 s6
        obtain ⟨qx, hqx⟩ : ∃ q, pX ck x (t.kids.take k) = q := ⟨_, rfl⟩
        obtain ⟨qy, hqy⟩ : ∃ q, pY ck y (t.kids.take k) = q := ⟨_, rfl⟩
        have HK := Lib.hid (HIH.out u z qx qy wr (by have := HS.out; have := sz_kid hu; omega) (by rw [← hqx]; exact pX_fits _ HFX.out) (by rw [← hqy]; exact pY_fits _ HFY.out) (hiz.up HBW.out))
        have HZR := Lib.hid hiz.split.2.1
        have HSN := Lib.hid (show setL ck x y (t.kids.take (k + 1)) = setL ck x y (t.kids.take k) ++ [setT qx qy u] by rw [take_snoc hu, setL_snoc, hqx, hqy])
        have HPX := Lib.hid (show pX ck x (t.kids.take (k + 1)) = nxX ck qx u by rw [pX_take hu, hqx])
        have HPY := Lib.hid (show pY ck y (t.kids.take (k + 1)) = nxY ck qy u by rw [pY_take hu, hqy])
        rw [hqx, hqy]
        have HZ := Lib.hid hz
        clear hiz hu hz hqx hqy
        obtain ⟨ax, ay, HNX, HNY, hax⟩ : ∃ ax ay : Int, Hid (nxX ck qx u = ax) ∧ Hid (nxY ck qy u = ay) ∧ (((ck == 2) = true ∧ (ck == 3) = false ∧ ax = IntKind.i64.wrap (IntKind.i64.wrap (qx + z.r.w) + 1) ∧ ay = qy) ∨ ((ck == 2) = false ∧ (ck == 3) = true ∧ ax = qx ∧ ay = IntKind.i64.wrap (IntKind.i64.wrap (qy + z.r.h) + 1)) ∨ ((ck == 2) = false ∧ (ck == 3) = false ∧ ax = qx ∧ ay = qy)) := by
          have hz := HZR.out
          by_cases h2 : ck = 2
          · subst h2; exact ⟨_, _, nxX_row, nxY_no (by decide), .inl ⟨rfl, rfl, by rw [wrap_b, hz], rfl⟩⟩
          · by_cases h3 : ck = 3
            · subst h3; exact ⟨_, _, nxX_no (by decide), nxY_col, .inr (.inl ⟨rfl, rfl, rfl, by rw [wrap_b, hz]⟩)⟩
            · exact ⟨_, _, nxX_no h2, nxY_no h3, .inr (.inr ⟨by simpa using h2, by simpa using h3, rfl, rfl⟩)⟩
        rcases hax with ⟨d2, d3, rfl, rfl⟩ | ⟨d2, d3, rfl, rfl⟩ | ⟨d2, d3, rfl, rfl⟩
        all_goals
          go_wp2_with fail
          refine HK.out.mono ?_
          rintro e w2 ⟨d, S2, rfl, hown2, hnd2, hb2⟩
          have HO2 := Lib.hid hown2
          have HN2 := Lib.hid hnd2
          have HB12 := Lib.hid hb2
          have HB2 := Lib.hid (HB.out.trans (hb2.mono HB.out.size))
          clear hown2 hnd2 hb2 c0 c1 c2 c3 c4 c5 c6 s0 s1 s2 s3 s4 s5 s6
          have HLN : Hid (cs.length + [d].length ≤ 1954687338211) := Lib.hid (by have := HF.out.len; rw [setL_length, List.length_take] at this; simp; omega)
          go_wp2_with (at_builtin; refine wpList_append_cells rfl _ _ rfl (setW w (setC ⟨ck, cr, cid, some ⟨b, o, none⟩, t.kids.length, ccap⟩ x y)).heap.size u7 _ cs [d] rfl (HF.out.row.up (HB12.out.trans ((Below.refl w2.heap.size w2).alloc (Nat.le_refl _) (cbox d) |>.mono HB12.out.size))) rfl (OwnC.one w2 0 (Nat.zero_le _) d).row (by simp) HLN.out (setW w (setC ⟨ck, cr, cid, some ⟨b, o, none⟩, t.kids.length, ccap⟩ x y)) (HB2.out.alloc HB2.out.size _) (Nat.le_refl _) ?_; intro g cap3 w3 hown3 hb3 hgr3 hpl3; have HF3 := Lib.hid (HF.out.add HB12.out HO2.out HN2.out (by simp) (by have := HB.out.size; exact Nat.le_trans this (by simp)) hown3 hgr3 hpl3); have HB3 := Lib.hid hb3; clear hown3 hb3 hgr3 hpl3; obtain ⟨k0, k1, k2, k3, k4, k5, k6⟩ := HZ.out.up (BW.out.trans (HB3.out.mono BW.out.size)); have BX3 := BX.out.up HB3.out; obtain ⟨b0, b1, b2, b3, b4, b5, b6⟩ := BX3.cat; simp only [Nat.zero_add] at b1 b2 b3 b4 b5 b6)
          go_wp2
          go_roundg (gk - 1)
          case measure => have := HG.out; omega
          case rel =>
            refine ⟨k + 1, cs ++ [d], Ss ++ [S2], by have := HG.out; omega, by omega, by go_num, (by rw [HPX.out, HNX.out]; try simp only [wrapE]), (by rw [HPY.out, HNY.out]; try simp only [wrapE]), ?_, HB3.out⟩
            rw [HSN.out]
            simpa using HF3.out
      · obtain rfl : k = t.kids.length := by omega
        have hkl : ((t.kids.length : Int) < (t.kids.length : Int)) = False := by simp
        have HFA : Hid (Forest wr (setW w (setC ⟨ck, cr, cid, ca, t.kids.length, ccap⟩ x y)).heap.size u7 cs (setL ck x y t.kids) Ss) := Lib.hid (by have := HF.out; rw [List.take_length] at this; exact this)
        obtain ⟨a', cap', rfl⟩ := HF.out.row.row.shape
        have HBX := Lib.hid (BX.out.up HB.out)
        have HZX := Lib.hid (zero_up ZX.out HB.out)
        obtain ⟨c0, c1, c2, c3, c4, c5, c6⟩ := HBX.out.cat
        simp only [Nat.zero_add] at c1 c2 c3 c4 c5 c6
        have g6 := HBX.out.free 6
        obtain ⟨⟨z0, z1, z2, z3, z4, z5, z6⟩, f0, f1, f2, f3, f4, f5, f6⟩ := zero_parts HZX.out
        go_wp2
        (try simp only [Exit.inBlock, Exit.then])
        have hset : (wr.setCell ⟨w.heap.size, 6, none⟩ (.slice a' cs.length cap')).heap[w.heap.size + 1]? = wr.heap[w.heap.size + 1]? := Below.heap_setCell wr ⟨w.heap.size, 6, none⟩ _ _ (by simp)
        have hz2 : Box7 (wr.setCell ⟨w.heap.size, 6, none⟩ (.slice a' cs.length cap')) (w.heap.size + 1) ⟨0, ⟨0, 0, 0, 0⟩, 0, none, 0, 0⟩ := hset.trans HZX.out
        refine bodyPost_ret (results_cell1 rfl _ _ (w.heap.size + 1) ⟨ck, ⟨x, y, cr.w, cr.h⟩, cid, a', cs.length, cap'⟩ rfl (hz2.put ⟨ck, ⟨x, y, cr.w, cr.h⟩, cid, a', cs.length, cap'⟩)) rfl ?_
        obtain ⟨e1, e2, e3, -⟩ := HSP.out
        have hend := set_end (k := ck) (r := ⟨x, y, cr.w, cr.h⟩) (id := cid) HBW.out (by have := HB.out.size; have := SW.out; omega) (by rw [← SW.out]; exact HFA.out) HFINE.out.1 ⟨HFX.out, HFY.out, HFINE.out.2.1.2.2⟩ HFINE.out.2.2.1 (by rw [setL_length]; exact hfn)
        refine ⟨⟨ck, ⟨x, y, cr.w, cr.h⟩, cid, a', cs.length, cap'⟩, blk (.slice a' cs.length cap') ++ Ss.flatten, rfl, ?_, hend.2.1, hend.2.2⟩
        rw [setT_eq, e1, e2, e3]
        exact hend.1
end Go.Proofs.YtodcabaihhmhnaaGreat
/- Rectangles, many or none, added to a row of one's own. -/
namespace Go.Proofs.YtodcabaihhmhnaaGreat
open Go.RowKit

theorem runR_zero {w : World} {base : Nat} {v : Value} {l : List R} (h : Owns w base v l) (ty : TypeId) (a : Option Addr) (c : Nat) : (Builtin.append_ #[81, 81] ty #[v, .slice a 0 c]).run Tryz.prog w = .ok v w := by
  obtain ⟨i, hi, hz0, hz1, hz2⟩ := rinfo
  have ht := Tryz.underlying81
  have hz : ∀ ad : Addr, (loadCells ad 0).run Tryz.prog w = .ok #[] w := fun ad => by first | rfl | simp [loadCells]
  rcases h.2 with ⟨rfl, hn⟩ | ⟨g, cap, cur, rfl, -, -, hnc, -⟩
  · cases a <;> simp [Builtin.append_, run_underlying ht, sizeOf, typeInfo, hi, Builtin.lenOf, Builtin.firstCells, hz]
  · cases a <;> simp [Builtin.append_, run_underlying ht, sizeOf, typeInfo, hi, Builtin.lenOf, Builtin.firstCells, hnc, storeCells, hz]

theorem rrow_cells {w : World} {a : Option Addr} {cap : Nat} {l : List R} (h : RRow w (.slice a l.length cap) l) (hp : 0 < l.length) : ∃ ad, a = some ad ∧ ∀ j u, (flat l)[j]? = some u → w.cell? (ad.add j) = some u := by
  obtain ⟨b, o, rfl, hf⟩ := h.place hp
  exact ⟨⟨b, o, none⟩, rfl, rat_cells hf⟩

/-- append(own.., rectangles...): what is owned then is both; where it lies. -/
theorem wpList_append_rects {w : World} {ops : Array Oper} {rest : List Oper} {o : Oper} {a : Act} {Q : Exit → Act → World → Prop} (hgd : o.guard = none) (s x : Operand)
    (ho : o.op = .call { callee := .builtin .append, args := #[s, x], argTypes := #[81, 81] })
    (base : Nat) (v src : Value) (xs news : List R) (hs : a.eval s = v) (hown : Owns w base v xs) (hx : a.eval x = src) (hrow : RRow w src news)
    (h63 : xs.length + news.length ≤ 1000000000) (w0 : World) (hb : Below base w0 w) (hbase0 : base ≤ w0.heap.size)
    (h : ∀ v' w', Owns w' base v' (xs ++ news) → Below base w0 w' → w.grownBy w' v.ownBlock → (v'.ownBlock = v.ownBlock ∨ v'.ownBlock = some w.heap.size) → wpList Tryz.prog ops Q rest (a.put o.dst v') w') : wpList Tryz.prog ops Q (o :: rest) a w := by
  have hbase : base ≤ w.heap.size := Nat.le_trans hbase0 hb.size
  obtain ⟨i, hi, hz0, hz1, hz2⟩ := rinfo
  obtain ⟨ad', cap, rfl⟩ := hrow.shape
  rcases Nat.eq_zero_or_pos news.length with h0 | hp
  · have hn : news = [] := List.length_eq_zero_iff.1 h0
    subst hn
    refine wpList_plain hgd fun K hK => ?_
    unfold Oper.wp execOp
    simp only [ho, resolve, invoke, builtin, Sem.run_bind, Sem.run_pure, Result.andThen_ok, List.map_toArray, List.map_cons, List.map_nil, hs, hx]
    rw [show ([] : List R).length = 0 from rfl, runR_zero hown]
    refine hK _ _ (h v w (by simpa using hown) hb ?_ (.inl rfl))
    exact ⟨rfl, rfl, rfl, Nat.le_refl _, fun _ _ _ => rfl⟩
  · obtain ⟨ad, rfl, hc⟩ := rrow_cells hrow hp
    refine wpList_append_lies w hgd s x 81 ho base 23 i zeroR 4 32 Tryz.underlying81 hi hz0 hz1 hz2 rfl (by decide) v xs.length (flat xs) hs hown ad news.length cap (flat news) hx (flat_length _) hc (flat_oneCell _) hp (by unfold maxLen; omega) (by omega) hbase w.heap.size rfl ?_
    intro g cap' w' g1 g2 g3 _
    have g1' : Owns w' base (.slice (some ⟨g, 0, none⟩) (xs.length + news.length) cap') (xs ++ news) := by
      have : w'.ownsRow base 23 4 (.slice (some ⟨g, 0, none⟩) (xs.length + news.length) cap') (xs ++ news).length (flat (xs ++ news)) := by
        rw [flat_append, List.length_append]; exact g1
      exact this
    refine h _ w' g1' (hb.grown g2 hbase (fun k hk => (hown.lt k hk).1)) g2 ?_
    rcases g3 with g3 | g3
    · exact .inl (by rw [g3]; rfl)
    · exact .inr (by rw [g3]; rfl)
end Go.Proofs.YtodcabaihhmhnaaGreat
/- The document's own cut. -/
namespace Go.Proofs.YtodcabaihhmhnaaGreat
open Go.RowKit

theorem Two.drew {w : World} {base : Nat} {v1 : Value} {l1 : List R} {v2 : Value} {l2 : List R} (h : Two w base v1 l1 v2 l2) : Two w.drew base v1 l1 v2 l2 := ⟨h.own1, h.own2, h.ne⟩
theorem two_new {w : World} : Two ((w.alloc (.cells #[] 23)).alloc (.cells #[] 23)) w.heap.size (.slice (some ⟨w.heap.size, 0, none⟩) 0 0) [] (.slice (some ⟨w.heap.size + 1, 0, none⟩) 0 0) [] := by
  refine ⟨?_, ?_, fun k h1 h2 => ?_⟩
  · exact Owns.up (World.ownsRow_made w #[] 0 (Nat.le_refl _) (Nat.zero_le _) (by simp)) ((Below.refl _ _).alloc (Nat.le_refl _) _)
  · have := World.ownsRow_made (base := w.heap.size) (e := 23) (size := 4) (w.alloc (.cells #[] 23)) #[] 0 (by simp) (Nat.zero_le _) (by simp)
    rw [World.size_alloc] at this
    exact this
  · simp [Value.ownBlock] at h1 h2
    omega

theorem c5_of {w : World} {q b j : Nat} {r : R} {m : Int} (h : RAt w q 0 r) (hm : w.cell? ⟨b, j, none⟩ = some (.int .i64 m)) :
    w.cell? ⟨q, 0, none⟩ = some (.int .i64 r.x) ∧ w.cell? ⟨q, 1, none⟩ = some (.int .i64 r.y) ∧ w.cell? ⟨q, 2, none⟩ = some (.int .i64 r.w) ∧ w.cell? ⟨q, 3, none⟩ = some (.int .i64 r.h) ∧ w.cell? ⟨b, j, none⟩ = some (.int .i64 m) := by
  obtain ⟨h0, h1, h2, h3⟩ := h
  simp only [Nat.zero_add] at h1 h2 h3
  exact ⟨h0, h1, h2, h3, hm⟩

theorem fill_none {whole : Int} (h : 1 ≤ whole) : ¬ fillP whole [] := fun h' => by
  have := h'.2
  simp [offS] at this
  omega
theorem rcut_no {r : R} {ax : Int} {ms : List Int} {w w' : World} {b c b' c' : Nat} (h : ¬ cutP r ax ms) (hb : Below w.heap.size w w') : CutSays r ax ms w (.returned (.tuple #[.slice (some ⟨b, c, none⟩) 0 0, .slice (some ⟨b', c', none⟩) 0 0, .bool false])) w' :=
  ⟨_, _, false, rfl, by simp [h], .inl ⟨_, _, rfl, rfl⟩, .inl ⟨_, _, rfl, rfl⟩, hb⟩

set_option maxRecDepth 100000 in
set_option maxHeartbeats 1600000 in
/-- .. where it can't be. -/
theorem rcut_not (r : R) (ax : Int) (v : Value) (ms : List Int) (w : World) (hf : r.fits) (hr : IRow w v ms) (hax : 0 ≤ ax ∧ ax ≤ 255) (hno : ¬ (mayB r = true ∧ (ax = 1 ∨ ax = 2) ∧ 0 < ms.length)) :
    Calls Tryz.prog 77 #[val r, .int .u8 ax, v] w fun e w' => CutSays r ax ms w e w' := by
  obtain ⟨a, cap, rfl⟩ := hr.shape
  have B1 : Hid (Below w.heap.size w ((w.alloc (box r)).alloc (.cells #[] 23))) := ((Below.refl _ _).alloc (Nat.le_refl _) _).alloc (by simp) _
  have H := Lib.hid (rmay_any r ((w.alloc (box r)).alloc (.cells #[] 23)) hf)
  have hn : Hid (¬ cutP r ax ms) := fun h => by
    refine hno ⟨h.1, ?_, ?_⟩
    · rcases h.2 with h | h
      · exact .inl h.1
      · exact .inr h.1
    · have hb := (mayB_iff r).1 h.1
      rcases Nat.eq_zero_or_pos ms.length with h0 | h0
      · rw [List.length_eq_zero_iff.1 h0] at h
        rcases h.2 with h | h
        · exact absurd h.2 (fill_none (by omega))
        · exact absurd h.2 (fill_none (by omega))
      · exact h0
  clear hr hf
  rcases bool_cases (mayB r) with hm | hm
  case inr =>
    rw [hm] at H
    go_enter Tryz.func77, Tryz.ntmps77
    go_wp2_with fail
    refine H.out.mono ?_
    rintro e w2 ⟨rfl, hb2⟩
    have B2 := Lib.hid (B1.out.trans (hb2.mono B1.out.size))
    clear hb2
    go_wp2
    go_ret3
    exact rcut_no hn.out B2.out
  rw [hm] at H
  by_cases h1 : ax < 1
  · have d1 : decide (ax < 1) = true := decide_eq_true h1
    go_enter Tryz.func77, Tryz.ntmps77
    go_wp2_with fail
    refine H.out.mono ?_
    rintro e w2 ⟨rfl, hb2⟩
    have B2 := Lib.hid (B1.out.trans (hb2.mono B1.out.size))
    clear hb2
    go_wp2
    go_ret3
    exact rcut_no hn.out B2.out
  have d1 : decide (ax < 1) = false := decide_eq_false h1
  by_cases h2 : 2 < ax
  · have d2 : decide (2 < ax) = true := decide_eq_true h2
    go_enter Tryz.func77, Tryz.ntmps77
    go_wp2_with fail
    refine H.out.mono ?_
    rintro e w2 ⟨rfl, hb2⟩
    have B2 := Lib.hid (B1.out.trans (hb2.mono B1.out.size))
    clear hb2
    go_wp2
    go_ret3
    exact rcut_no hn.out B2.out
  have d2 : decide (2 < ax) = false := decide_eq_false h2
  have h0 : ms.length = 0 := by
    rcases Nat.eq_zero_or_pos ms.length with h0 | h0
    · exact h0
    · exact absurd ⟨hm, by omega, h0⟩ hno
  clear hno
  go_enter Tryz.func77, Tryz.ntmps77
  go_wp2_with fail
  refine H.out.mono ?_
  rintro e w2 ⟨rfl, hb2⟩
  have B2 := Lib.hid (B1.out.trans (hb2.mono B1.out.size))
  clear hb2
  go_wp2
  go_ret3
  exact rcut_no hn.out B2.out
end Go.Proofs.YtodcabaihhmhnaaGreat
