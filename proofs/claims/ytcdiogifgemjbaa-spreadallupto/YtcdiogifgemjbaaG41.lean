/- Texts of this seat, 2 in one file. -/
import Derived.Test.YtcdiogifgemjbaaG40
import Derived.Test.YtcdiogifgemjbaaG35
/- All cells of a tree are spread: the program's walk. -/
namespace Go.Proofs.Ytcdiogifgemjbaa
open Go.RowKit

theorem SpSt.put {w W : World} {c lo : C} (h : SpSt w c lo W) (d : C) : SpSt w d lo (put7 W w.heap.size d) :=
  ⟨below_put7 h.below (Nat.le_refl _) d, h.box.put d, (heap_put7 (by omega)).trans h.low, (heap_put7 (by omega)).trans h.zero, by rw [size_put7]; exact h.size⟩
theorem spa_end {w wr : World} {k : Int} {r : R} {id : Int} {a : Option Addr} {cap base : Nat} {cs : List C} {l : List T} {t' : T} (he : t' = .node k r id l) (hb : Below w.heap.size w wr) (h : Grove (fun _ => True) wr base (.slice a cs.length cap) cs l) (hbase : w.heap.size + 3 ≤ base) (hk : 0 ≤ k ∧ k ≤ 255) (hr : r.fits) (hi : fits id) (hl : l.length ≤ 990) :
    GrSays (fun _ => True) t' w (.returned (cval ⟨k, r, id, a, cs.length, cap⟩)) (spwW w wr ⟨k, r, id, a, cs.length, cap⟩) := by
  subst he
  refine ⟨_, rfl, ?_, below_put7 (hb.setCell (p := ⟨w.heap.size, 6, none⟩) (Nat.le_refl _) _) (by omega) _⟩
  have hst := h.tree (k := k) (r := r) (id := id) hk hr hi (by omega)
  exact (hst.move (w2 := spwW w wr ⟨k, r, id, a, cs.length, cap⟩) fun j hj _ => spwW_other (by omega) (by omega)).wide (by omega) (by rw [spwW_size]; exact Nat.le_refl _)

set_option maxHeartbeats 8000000 in
set_option maxRecDepth 100000 in
theorem spall_any (N : Nat) : ∀ (t : T) (c lo : C) (w : World), sz t ≤ N → sz t ≤ 990 → tileB t = true → Is w c t → Is w lo (loT t) → Calls Try.prog 17 #[cval c, cval lo] w (GrSays (fun _ => True) (prF N t) w) := by
  induction N with
  | zero => intro t c lo w h; have := sz_pos t; omega
  | succ N ih =>
    intro t c lo w hs hm ht hi hl
    have L0 := Lib.hid (SpSt.start w c lo)
    have HK := Lib.hid (spread_any t c lo _ hm ht (hi.up L0.out.below) (hl.up L0.out.below))
    obtain ⟨hpl, hps, hplo, hpt⟩ := prK_all (by omega) ht
    have HPL := Lib.hid hpl
    have HPLO := Lib.hid hplo
    have HPT := Lib.hid hpt
    have HCC := Lib.hid (kid_cell hi)
    have HROW := Lib.hid hi.row
    have hn := hi.n
    have hlk : (loT t).kids = loL t.kids := by rw [loT_eq]; rfl
    have hlr := hl.row
    rw [hlk] at hlr
    have hln := hl.n
    rw [hlk, loL_len] at hln
    obtain ⟨ck, cr, cid, ca, cn, ccap⟩ := c
    obtain ⟨lk, lr, lid, la, ln, lcap⟩ := lo
    simp only at hn hln
    subst hn
    subst hln
    have HLR : Hid (TRow w (.slice la t.kids.length lcap) (loL t.kids)) := Lib.hid hlr
    have HFN : Hid (t.kids.length ≤ 990) := Lib.hid (by have := sz_node t; have := szL_len t.kids; omega)
    have HS := Lib.hid hs
    have HM := Lib.hid hm
    have HIH := Lib.hid ih
    clear hs hm ht hi hl hpl hps hplo hpt hlk hlr ih
    go_enter Try.func17, Try.ntmps17
    go_upto_region 1 with fail
    change Code.wp _ _ _ _ (((w.alloc (cbox ⟨ck, cr, cid, ca, t.kids.length, ccap⟩)).alloc (cbox ⟨lk, lr, lid, la, t.kids.length, lcap⟩)).alloc zeroBox)
    generalize ((w.alloc (cbox ⟨ck, cr, cid, ca, t.kids.length, ccap⟩)).alloc (cbox ⟨lk, lr, lid, la, t.kids.length, lcap⟩)).alloc zeroBox = W0 at L0 HK ⊢
    obtain ⟨c0, c1, c2, c3, c4, c5, c6⟩ := c7_of L0.out.box.cat
    obtain ⟨l0, l1, l2, l3, l4, l5, l6⟩ := c7_of L0.out.low.cat
    go_wp2_with fail
    refine HK.out.mono ?_
    rintro e w3 ⟨d, hcase, hb3⟩
    have L3 := Lib.hid (L0.out.up hb3)
    have AL3 : Hid (Below w3.heap.size w3 (w3.alloc (cbox d))) := Lib.hid ((Below.refl _ _).alloc (Nat.le_refl _) _)
    have L4 := Lib.hid (L3.out.up AL3.out)
    have HLT0 : Hid (w.heap.size < W0.heap.size) := Lib.hid (lt_of_block L0.out.box)
    have NB := Lib.hid (Box7.new w3 d)
    clear hb3 c0 c1 c2 c3 c4 c5 c6 l0 l1 l2 l3 l4 l5 l6 HK L0
    rcases hcase with ⟨h0, rfl, hst⟩ | ⟨h0, rfl, rfl⟩
    case' inl =>
      have I5 : Hid (Is (put7 (w3.alloc (cbox d)) w.heap.size d) d (svP t)) := Lib.hid ((hst.move (w2 := put7 (w3.alloc (cbox d)) w.heap.size d) fun j hj hj2 => (heap_put7 (by have := HLT0.out; omega)).trans (AL3.out.block j hj2)).is trivial)
      have HPK : Hid (prK t = svQ t) := Lib.hid (if_pos h0)
      have HDN : Hid (d.n = t.kids.length) := Lib.hid (by have := I5.out.n; rw [this]; exact svQ_len t)
      obtain ⟨c0, c1, c2, c3, c4, c5, c6⟩ := c7_of L4.out.box.cat
      obtain ⟨q0, q1, q2, q3, q4, q5, q6⟩ := c7_of NB.out.cat
      have r0 := L4.out.box.free 0
      have r1 := L4.out.box.free 1
      have r2 := L4.out.box.free 2
      have r3 := L4.out.box.free 3
      have r4 := L4.out.box.free 4
      have r5 := L4.out.box.free 5
      have r6 := L4.out.box.free 6
      clear hst h0
      go_upto_region 4 with fail
      change Code.wp _ _ _ _ (put7 (w3.alloc (cbox d)) w.heap.size d)
      clear c0 c1 c2 c3 c4 c5 c6 q0 q1 q2 q3 q4 q5 q6 r0 r1 r2 r3 r4 r5 r6
      have L5 := Lib.hid (L4.out.put d)
      generalize put7 (w3.alloc (cbox d)) w.heap.size d = W5 at L5 I5 ⊢
      have HXC := Lib.hid (kid_cell I5.out)
      have HXR := Lib.hid I5.out.row
      obtain ⟨xk, xr, xid, xa, xn, xcap⟩ := d
      have hdn : xn = t.kids.length := HDN.out
      clear HDN
      subst hdn
      have HTR : Hid (TRow W5 (.slice xa t.kids.length xcap) (prK t)) := Lib.hid (by rw [HPK.out]; exact HXR.out)
      have HXF : Hid ((0 ≤ xk ∧ xk ≤ 255) ∧ xr.fits ∧ fits xid ∧ t.k = xk ∧ t.r = xr ∧ t.id = xid) := Lib.hid HXC.out
      clear HXC HXR I5 HPK L3 L4 AL3 NB
    case' inr =>
      have HPK : Hid (prK t = t.kids) := Lib.hid (if_neg h0)
      clear h0
      go_upto_region 4 with fail
      change Code.wp _ _ _ _ (w3.alloc (cbox zC))
      have L5 := L4
      generalize w3.alloc (cbox zC) = W5 at L5 ⊢
      have HTR : Hid (TRow W5 (.slice ca t.kids.length ccap) (prK t)) := Lib.hid (by rw [HPK.out]; exact HROW.out.up L5.out.below)
      have HXF : Hid ((0 ≤ ck ∧ ck ≤ 255) ∧ cr.fits ∧ fits cid ∧ t.k = ck ∧ t.r = cr ∧ t.id = cid) := Lib.hid HCC.out
      clear HPK L3 L4 AL3 NB
      obtain ⟨xk, hxk⟩ : ∃ xk, ck = xk := ⟨_, rfl⟩
      obtain ⟨xr, hxr⟩ : ∃ xr, cr = xr := ⟨_, rfl⟩
      obtain ⟨xid, hxid⟩ : ∃ xid, cid = xid := ⟨_, rfl⟩
      obtain ⟨xa, hxa⟩ : ∃ xa, ca = xa := ⟨_, rfl⟩
      obtain ⟨xcap, hxcap⟩ : ∃ xcap, ccap = xcap := ⟨_, rfl⟩
      subst hxk hxr hxid hxa hxcap
    all_goals
      have HG5 : Hid (Grove (fun _ => True) W5 W5.heap.size (.slice none 0 0) [] []) := Lib.hid (Grove.nil _ _ _)
      obtain ⟨c0, c1, c2, c3, c4, c5, c6⟩ := c7_of L5.out.box.cat
      go_wp2
      go_loopg [7, 21] (t.kids.length + 1) (fun gg v i wr => ∃ (k : Nat) (cs : List C) (a : Option Addr) (cap : Nat), gg + k = t.kids.length + 1 ∧ k ≤ t.kids.length ∧ i = .int .i64 k ∧ v = .slice a cs.length cap ∧ Grove (fun _ => True) wr W5.heap.size (.slice a cs.length cap) cs (((prK t).take k).map (prF N)) ∧ Below W5.heap.size W5 wr)
      case atStart => exact ⟨0, [], none, 0, by omega, by omega, rfl, rfl, by simpa using HG5.out, Below.refl _ _⟩
      case round =>
        obtain ⟨k, cs, a, cap, hg, hk, rfl, rfl, hgr, hb⟩ := hrel
        have HG := Lib.hid hg
        have HF := Lib.hid hgr
        have HBR := Lib.hid hb
        have LR := Lib.hid (L5.out.up hb)
        clear hg hgr hb c0 c1 c2 c3 c4 c5 c6
        by_cases hlt : k < t.kids.length
        · have hlti : (k : Int) < (t.kids.length : Int) := by omega
          have hpl : k < (prK t).length := by rw [HPL.out]; exact hlt
          obtain ⟨b3, o3, rfl, hf⟩ := HTR.out.place (by omega)
          obtain ⟨lb, lq, rfl, hfl⟩ := HLR.out.place (by rw [loL_len]; omega)
          obtain ⟨u, hu⟩ : ∃ u, (prK t)[k]? = some u := ⟨_, List.getElem?_eq_getElem hpl⟩
          have hlu : (loL t.kids)[k]? = some (loT u) := by rw [loL_map, ← HPLO.out, List.getElem?_map, hu]; rfl
          obtain ⟨z, hz, hiz⟩ := hf k u hu
          obtain ⟨y, hy, hiy⟩ := hfl k (loT u) hlu
          have hpt := HPT.out k u hu
          have HBA : Hid (Below wr.heap.size wr (wr.alloc (cbox z)).drew) := Lib.hid ((Below.refl _ _).alloc (Nat.le_refl _) _).drew
          have ST1 := Lib.hid (LR.out.up HBA.out)
          have KB1 : Hid (Box7 (wr.alloc (cbox z)).drew wr.heap.size z) := Lib.hid ((Box7.new wr z).up (Below.refl _ _).drew)
          have HK := Lib.hid (HIH.out u z y (wr.alloc (cbox z)).drew (by have := HS.out; omega) (by have := HM.out; omega) hpt.1 (hiz.up (HBR.out.trans (HBA.out.mono HBR.out.size))) (hiy.up ST1.out.below))
          have HST : Hid (((prK t).take (k + 1)).map (prF N) = ((prK t).take k).map (prF N) ++ [prF N u]) := Lib.hid (by rw [List.take_add_one, hu]; simp)
          have HLC : Hid (cs.length + 1 ≤ 1954687338211) := Lib.hid (by
            have h1 := HF.out.len
            rw [List.length_map, List.length_take] at h1
            have := HFN.out; omega)
          obtain ⟨c0, c1, c2, c3, c4, c5, c6⟩ := hz.up HBR.out
          obtain ⟨k0, k1, k2, k3, k4, k5, k6⟩ := c7_of KB1.out.cat
          obtain ⟨y0, y1, y2, y3, y4, y5, y6⟩ := hy.up ST1.out.below
          have l6 := (c7_of ST1.out.low.cat).2.2.2.2.2.2
          clear hf hfl hu hlu hz hiz hy hiy hpt hpl
          go_wp2_with fail
          go_region_law (
            first
            | (refine step_append_cell rfl _ _ rfl W5.heap.size (.slice a cs.length cap) _ cs d9 rfl OW5.out rfl (OwnC.one w4 0 (Nat.zero_le _) d9).row HLC.out W5 (HBR.out.trans (((HBA.out.trans (HB4.out.mono HBA.out.size)).trans (HA5.out.mono (Nat.le_trans HBA.out.size HB4.out.size))).mono HBR.out.size)) (Nat.le_refl _) ?_
               intro g6 cap6 w6 hown6 hb6 hgr6 hpl6
               have HF6 := Lib.hid (HF.out.one (HBA.out.trans (HB4.out.mono HBA.out.size)) HA5.out HBR.out.size (G4.out.wide HBA.out.size (Nat.le_refl _)) (by rw [List.length_append]; exact hown6) hgr6 hpl6)
               have HB6 := Lib.hid hb6
               clear hown6 hb6 hgr6 hpl6)
            | (go_simp; go_at_call 17; (refine HK.out.mono ?_); rintro e w4 ⟨d9, rfl, hst4, hb4⟩; have G4 := Lib.hid hst4; have HB4 := Lib.hid hb4; have HA5 : Hid (Below w4.heap.size w4 (w4.alloc (cbox d9))) := Lib.hid ((Below.refl _ _).alloc (Nat.le_refl _) _); have OW5 := Lib.hid (HF.out.row.up ((HBA.out.trans (hb4.mono HBA.out.size)).trans (HA5.out.mono (Nat.le_trans HBA.out.size hb4.size)))); clear hst4 hb4))
          all_goals
            (try simp only [Exit.inBlock, Exit.then])
            clear c0 c1 c2 c3 c4 c5 c6 k0 k1 k2 k3 k4 k5 k6 y0 y1 y2 y3 y4 y5 y6 l6
            have e9 : wrap64 ((k : Int) + 1) = ((k + 1 : Nat) : Int) := by have := HFN.out; rw [← wrapE, wrap_id (by omega)]; omega
            go_wp2
            go_roundg (gk - 1)
            case measure => have := HG.out; omega
            case rel =>
              refine ⟨k + 1, cs ++ [d9], some ⟨g6, 0, none⟩, cap6, by have := HG.out; omega, by omega, by first | rfl | exact congrArg _ e9 | (rw [e9]) | (congr 1; omega) | (simp only [IntKind.wrap_i64, e9]), by simp, ?_, HB6.out⟩
              rw [HST.out]
              exact HF6.out
        · obtain rfl : k = t.kids.length := by omega
          have hkl : ((t.kids.length : Int) < (t.kids.length : Int)) = False := by simp
          have HGF : Hid (Grove (fun _ => True) wr W5.heap.size (.slice a cs.length cap) cs ((prK t).map (prF N))) := Lib.hid (by have := HF.out; rw [List.take_of_length_le (by rw [HPL.out]; omega)] at this; exact this)
          clear HF
          obtain ⟨c0, c1, c2, c3, c4, c5, c6⟩ := c7_of LR.out.box.cat
          have g6 := LR.out.box.free 6
          obtain ⟨⟨z0, z1, z2, z3, z4, z5, z6⟩, f0, f1, f2, f3, f4, f5, f6⟩ := zero_parts LR.out.zero
          have HEQ : Hid (prF (N + 1) t = .node _ _ _ ((prK t).map (prF N))) := Lib.hid (by rw [prF, HXF.out.2.2.2.1, HXF.out.2.2.2.2.1, HXF.out.2.2.2.2.2])
          go_wp2
          (try simp only [Exit.inBlock, Exit.then])
          have hz2 : Box7 (wr.setCell ⟨w.heap.size, 6, none⟩ (.slice a cs.length cap)) (w.heap.size + 1 + 1) zC := (row_other _ (by omega)).trans LR.out.zero
          refine bodyPost_ret (results_cell1 rfl _ _ (w.heap.size + 1 + 1) ⟨_, _, _, a, cs.length, cap⟩ rfl (hz2.put ⟨_, _, _, a, cs.length, cap⟩)) rfl ?_
          exact spa_end HEQ.out LR.out.below HGF.out L5.out.size HXF.out.1 HXF.out.2.1 HXF.out.2.2.1 (by rw [List.length_map, HPL.out]; exact HFN.out)
end Go.Proofs.Ytcdiogifgemjbaa
/- All is spread: the program's answer. -/
namespace Go.Proofs.Ytcdiogifgemjbaa
open Go.RowKit

set_option maxHeartbeats 4000000 in
set_option maxRecDepth 100000 in
theorem pall_any : SpAllK := by
  intro t c w hm hi
  have L0 := Lib.hid (ASt.start w c)
  have HT := Lib.hid (tilesOne_any t c (cellW w c) (L0.out.is hi) (fun _ => by omega) (w.heap.size + 2) (by simp))
  have HI := Lib.hid hi
  have HM := Lib.hid hm
  have HFC := Lib.hid hi.fine
  have HSPL := Lib.hid hi.split
  obtain ⟨c0, c1, c2, c3, c4, c5, c6⟩ := c7_of L0.out.box.cat
  clear hi hm
  cases ht : tileB t with
  | false =>
    rw [ht] at HT
    have HE : Hid (alE t = 1) := Lib.hid (by unfold alE; rw [if_neg (by rw [ht]; decide)])
    clear ht
    go_enter Try.func11, Try.ntmps11
    go_wp2_with fail
    refine HT.out.mono ?_
    rintro e w1 ⟨rfl, hb1⟩
    have L1 := Lib.hid (L0.out.up hb1)
    clear hb1 c0 c1 c2 c3 c4 c5 c6 HT L0
    obtain ⟨⟨z0, z1, z2, z3, z4, z5, z6⟩, f0, f1, f2, f3, f4, f5, f6⟩ := zero_parts L1.out.zero
    go_wp2
    (try simp only [Exit.inBlock, Exit.then])
    refine bodyPost_ret (results_c2 rfl _ _ (w.heap.size + 1) zC rfl ((Box7.of_zero L1.out.zero).put zC)) rfl ?_
    rw [HE.out]
    exact ⟨zC, rfl, by rw [if_neg (by decide)]; exact zero_is _, below_put7 L1.out.below (by omega) zC⟩
  | true =>
    rw [ht] at HT
    have HTT := Lib.hid ht
    have HE : Hid (alE t = 0) := Lib.hid (if_pos ht)
    have HEQ : Hid (setT c.r.x c.r.y (prF (sz t) t) = setT t.r.x t.r.y (alT t)) := Lib.hid (by
      rw [eqS_at (pr_al (sz t) t t rfl) c.r.x c.r.y, HSPL.out.2.1]; rfl)
    clear ht
    go_enter Try.func11, Try.ntmps11
    go_wp2_with fail
    refine HT.out.mono ?_
    rintro e w1 ⟨rfl, hb1⟩
    have L1 := Lib.hid (L0.out.up hb1)
    clear hb1 c0 c1 c2 c3 c4 c5 c6 HT L0
    have D3 : Hid (ASt w c w1.drew) := Lib.hid (L1.out.up (Below.refl _ _).drew)
    have HLO := Lib.hid (lowest_any (sz t) t c w1.drew (Nat.le_refl _) HM.out (ok_may (tile_may HTT.out)) (D3.out.is HI.out))
    have HSA := Lib.hid (fun (l : C) (W : World) (h : Is W c t) (hl : Is W l (loT t)) => spall_any (sz t) t c l W (Nat.le_refl _) HM.out HTT.out h hl)
    have HSET := Lib.hid (fun (d : C) (W : World) (h : Is W d (prF (sz t) t)) => set_any (sz (prF (sz t) t)) (prF (sz t) t) d c.r.x c.r.y W (Nat.le_refl _) HFC.out.2.1.1 HFC.out.2.1.2.1 h)
    have X3 := Lib.hid (c7_of D3.out.box.cat)
    obtain ⟨c0, c1, c2, c3, c4, c5, c6⟩ := c7_of L1.out.box.cat
    generalize prF (sz t) t = t' at HSA HSET HEQ
    go_wp2_with fail
    go_region_held3 (fun W => W.cell? ⟨w.heap.size, 0, none⟩ = some (.int .u8 c.k) ∧ W.cell? ⟨w.heap.size, 1, none⟩ = some (.int .i64 c.r.x) ∧ W.cell? ⟨w.heap.size, 2, none⟩ = some (.int .i64 c.r.y) ∧ W.cell? ⟨w.heap.size, 3, none⟩ = some (.int .i64 c.r.w) ∧ W.cell? ⟨w.heap.size, 4, none⟩ = some (.int .i64 c.r.h) ∧ W.cell? ⟨w.heap.size, 5, none⟩ = some (.int .i64 c.id) ∧ W.cell? ⟨w.heap.size, 6, none⟩ = some (.slice c.a c.n c.cap)) (first | with_reducible exact X3.out | with_reducible exact X4.out | with_reducible exact X5.out | with_reducible exact X6.out | with_reducible exact X7.out)
      (first
        | (go_at_call 18; (with_reducible refine HLO.out.mono ?_); rintro e w4 ⟨l4, rfl, hst4, hb4⟩; have L4 := Lib.hid (D3.out.up hb4); have X4 := Lib.hid (c7_of L4.out.box.cat); have I4 := Lib.hid (hst4.is trivial); clear hst4 hb4)
        | (go_at_call 17; (with_reducible refine (HSA.out l4 w4 (L4.out.is HI.out) I4.out).mono ?_); rintro e w5 ⟨d5, rfl, hst5, hb5⟩; have L5 := Lib.hid (L4.out.up hb5); have X5 := Lib.hid (c7_of L5.out.box.cat); have I5 := Lib.hid (hst5.is trivial); clear hst5 hb5)
        | (go_at_call 16; (with_reducible refine (HSET.out d5 w5 I5.out).mono ?_); rintro e w6 ⟨d6, S6, rfl, hown6, -, hb6⟩; have L6 := Lib.hid (L5.out.up hb6); have X6 := Lib.hid (c7_of L6.out.box.cat); have O6 := Lib.hid hown6; have X7 := Lib.hid (c7_put7 (k := w.heap.size + 1) (x := d6) X6.out (by omega)); obtain ⟨⟨z0, z1, z2, z3, z4, z5, z6⟩, f0, f1, f2, f3, f4, f5, f6⟩ := zero_parts L6.out.zero; clear hown6 hb6))
    go_wp2
    (try simp only [Exit.inBlock, Exit.then])
    refine bodyPost_ret (results_c2 rfl _ _ (w.heap.size + 1) d6 rfl ((Box7.of_zero L6.out.zero).put d6)) rfl ?_
    rw [HE.out]
    refine ⟨d6, rfl, ?_, below_put7 L6.out.below (by omega) d6⟩
    rw [if_pos rfl, ← HEQ.out]
    exact (stands_put L6.out O6.out rfl (lt_of_block L5.out.zero)).is trivial
end Go.Proofs.Ytcdiogifgemjbaa
