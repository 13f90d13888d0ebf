/- Texts of this seat, 3 in one file. -/
import Derived.Test.YtcdiogifgemjbaaG34
import Derived.Test.YtcdiogifgemjbaaG08
import Derived.Test.YtcdiogifgemjbaaG27
/- All cells are spread: the document's walk. -/
namespace Go.Proofs.Ytcdiogifgemjbaa
open Go.RowKit

def AlSays (u : T) (w : World) (e : Ending) (w' : World) : Prop := ∃ d, e = .returned (cval d) ∧ Stands (fun _ => True) w' w.heap.size w'.heap.size d u ∧ Below w.heap.size w w'
abbrev enW (w wr : World) (d : C) : World := put7 (wr.setCell ⟨w.heap.size, 6, none⟩ (.slice d.a d.n d.cap)) (w.heap.size + 1) d
theorem enW_other {w wr : World} {d : C} {k : Nat} (h1 : k ≠ w.heap.size) (h2 : k ≠ w.heap.size + 1) : (enW w wr d).heap[k]? = wr.heap[k]? := (heap_put7 h2).trans (row_other _ h1)
theorem enW_size (w wr : World) (d : C) : (enW w wr d).heap.size = wr.heap.size := by unfold enW; rw [size_put7, row_size]
theorem al_end {w wr : World} {k : Int} {r : R} {id : Int} {a : Option Addr} {cap base : Nat} {cs : List C} {l : List T} {t' : T} (he : t' = .node k r id l) (hb : Below w.heap.size w wr) (h : Grove (fun _ => True) wr base (.slice a cs.length cap) cs l) (hbase : w.heap.size + 2 ≤ base) (hk : 0 ≤ k ∧ k ≤ 255) (hr : r.fits) (hi : fits id) (hl : l.length ≤ 1954687338211) :
    AlSays t' w (.returned (cval ⟨k, r, id, a, cs.length, cap⟩)) (enW w wr ⟨k, r, id, a, cs.length, cap⟩) := by
  subst he
  refine ⟨_, rfl, ?_, below_put7 (hb.setCell (p := ⟨w.heap.size, 6, none⟩) (Nat.le_refl _) _) (by omega) _⟩
  have hst := h.tree (k := k) (r := r) (id := id) hk hr hi hl
  exact (hst.move (w2 := enW w wr ⟨k, r, id, a, cs.length, cap⟩) fun j hj _ => enW_other (by omega) (by omega)).wide (by omega) (by rw [enW_size]; exact Nat.le_refl _)

noncomputable def spK (t : T) : List T := if svE t = 0 then svL t else t.kids
theorem spK_all {t : T} (hs : sz t ≤ 20000) (ht : tileB t = true) : (spK t).length = t.kids.length ∧ szL (spK t) = szL t.kids ∧ ∀ (j : Nat) (u : T), (spK t)[j]? = some u → tileB u = true ∧ sz u < sz t := by
  have hL : szL (spK t) = szL t.kids := by unfold spK; split; exact svL_sz t; rfl
  refine ⟨by unfold spK; split; exact svL_len t; rfl, hL, fun j u hu => ⟨?_, ?_⟩⟩
  · unfold spK at hu
    split at hu
    · rename_i h0
      exact sv_tile hs ht h0 u (List.mem_of_getElem? hu)
    · exact tile_kid hs ht hu
  · have h1 := szL_mem hu
    have := sz_node t
    omega

set_option maxHeartbeats 8000000 in
set_option maxRecDepth 100000 in
theorem rall_sp (N : Nat) : ∀ (t : T) (c : C) (w : World), sz t ≤ N → sz t ≤ 990 → tileB t = true → Is w c t → Calls Try.prog 21 #[cval c] w (AlSays (alF N t) w) := by
  induction N with
  | zero => intro t c w h; have := sz_pos t; omega
  | succ N ih =>
    intro t c w hs hm ht hi
    have L0 := Lib.hid (ASt.start w c)
    have HK := Lib.hid (rkids_any t c (cellW w c) hm ht (L0.out.is hi))
    have HIH := Lib.hid ih
    have HS := Lib.hid hs
    have HM := Lib.hid hm
    obtain ⟨hkl, hks, hku⟩ := spK_all (by omega) ht
    have HKU := Lib.hid hku
    have HKL := Lib.hid hkl
    have hcell := kid_cell hi
    have HAL : Hid (alF (N + 1) t = .node c.k c.r c.id ((spK t).map (alF N))) := Lib.hid (by rw [alF, hcell.2.2.2.1, hcell.2.2.2.2.1, hcell.2.2.2.2.2]; rfl)
    have HFC := Lib.hid hcell
    have hn := hi.n
    have hrow := hi.row
    have hfn : t.kids.length ≤ 990 := by have := sz_node t; have := szL_len t.kids; omega
    obtain ⟨ck, cr, cid, ca, cn, ccap⟩ := c
    simp only at hn
    subst hn
    have HFN := Lib.hid hfn
    have HROW := Lib.hid hrow
    clear hi hm ht hs hkl hks hku ih hcell hfn hrow
    go_enter Try.func21, Try.ntmps21
    go_upto_region 1 with fail
    change Code.wp _ _ _ _ (cellW w ⟨ck, cr, cid, ca, t.kids.length, ccap⟩)
    generalize cellW w ⟨ck, cr, cid, ca, t.kids.length, ccap⟩ = W0 at L0 HK ⊢
    obtain ⟨c0, c1, c2, c3, c4, c5, c6⟩ := c7_of L0.out.box.cat
    go_wp2_with fail
    refine HK.out.mono ?_
    rintro e w3 ⟨v3, cs3, rfl, hg3, hb3⟩
    have L3 := Lib.hid (L0.out.up hb3)
    have HG3 := Lib.hid hg3
    clear hg3 hb3 c0 c1 c2 c3 c4 c5 c6 HK
    obtain ⟨c0, c1, c2, c3, c4, c5, c6⟩ := c7_of L3.out.box.cat
    have hrow3 : ∃ a3 cap3, v3 = .slice a3 cs3.length cap3 := HG3.out.row.row.shape
    obtain ⟨a3, cap3, rfl⟩ := hrow3
    have hzero : svE t = 0 ∨ svE t ≠ 0 := Classical.em _
    rcases hzero with h0 | h0
    case' inl =>
      rw [if_pos h0] at HG3
      have HTR : Hid (TRow w3 (.slice a3 t.kids.length cap3) (spK t)) := Lib.hid (by
        have hlen : cs3.length = t.kids.length := by rw [HG3.out.len, svL_len]
        have : spK t = svL t := if_pos h0
        rw [this, ← hlen]
        exact ⟨cs3, HG3.out.row.row, HG3.out.len, fun j x u hx hu => by
          obtain ⟨lo, hi, -, -, -, a4⟩ := HG3.out.each j x u hx hu
          exact a4.is trivial⟩)
      have hcl : cs3.length = t.kids.length := by rw [HG3.out.len, svL_len]
      rw [hcl, h0]
      clear h0 hcl HG3 HROW
      generalize a3 = a9 at HTR ⊢
      generalize cap3 = cap9 at HTR ⊢
      go_upto_region 4 with fail
    case' inr =>
      rw [if_neg h0] at HG3
      have HTR : Hid (TRow w3 (.slice ca t.kids.length ccap) (spK t)) := Lib.hid (by
        have : spK t = t.kids := if_neg h0
        rw [this]
        exact HROW.out.up L3.out.below)
      obtain ⟨n, hnn⟩ : ∃ n, n = svE t := ⟨_, rfl⟩
      rw [← hnn] at h0 ⊢
      have d1 : (n != 0) = true := by simpa using h0
      clear h0 hnn HG3 HROW
      go_upto_region 4 with fail
      clear d1
      obtain ⟨a9, ha9⟩ : ∃ a9, ca = a9 := ⟨_, rfl⟩
      obtain ⟨cap9, hcap9⟩ : ∃ cap9, ccap = cap9 := ⟨_, rfl⟩
      rw [ha9, hcap9] at HTR
      rw [ha9, hcap9]
      rw [ha9, hcap9] at L3 c6
      clear ha9 hcap9
    all_goals
      clear c0 c1 c2 c3 c4 c5 c6
      have HG4 := Lib.hid (Grove.empty (fun _ => True) w3 w3.heap.size (Nat.le_refl _))
      have HB4 : Hid (Below w3.heap.size w3 (w3.alloc (.cells #[] 32))) := Lib.hid ((Below.refl _ _).alloc (Nat.le_refl _) _)
      go_wp2
      go_loopg [5, 19] (t.kids.length + 1) (fun gg v i wr => ∃ (k : Nat) (cs : List C), gg + k = t.kids.length + 1 ∧ k ≤ t.kids.length ∧ i = .int .i64 k ∧ Grove (fun _ => True) wr w3.heap.size v cs (((spK t).take k).map (alF N)) ∧ Below w3.heap.size w3 wr)
      case atStart => exact ⟨0, [], by omega, by omega, rfl, HG4.out, HB4.out⟩
      case round =>
        obtain ⟨k, cs, hg, hk, rfl, hgr, hb⟩ := hrel
        have HGG := Lib.hid hg
        have HGR := Lib.hid hgr
        have HBR := Lib.hid hb
        have LR := Lib.hid (L3.out.up hb)
        clear hg hgr hb
        by_cases hlt : k < t.kids.length
        · have hlti : (k : Int) < (t.kids.length : Int) := by omega
          have hrw : TRow w3 (.slice a9 (spK t).length cap9) (spK t) := by rw [HKL.out]; exact HTR.out
          obtain ⟨b, o, rfl, hf⟩ := hrw.place (by rw [HKL.out]; omega)
          obtain ⟨u, hu⟩ : ∃ u, (spK t)[k]? = some u := ⟨_, List.getElem?_eq_getElem (by rw [HKL.out]; exact hlt)⟩
          obtain ⟨z, hz, hiz⟩ := hf k u hu
          have hku := HKU.out k u hu
          have HC := Lib.hid (HIH.out u z wr (by have := HS.out; omega) (by have := HM.out; omega) hku.1 (hiz.up HBR.out))
          have HST : Hid (((spK t).take (k + 1)).map (alF N) = ((spK t).take k).map (alF N) ++ [alF N u]) := Lib.hid (by rw [List.take_add_one, hu]; simp)
          have HLC : Hid (cs.length ≤ 990) := Lib.hid (by
            have h1 := HGR.out.len
            rw [List.length_map, List.length_take] at h1
            have := HFN.out; omega)
          obtain ⟨c0, c1, c2, c3, c4, c5, c6⟩ := hz.up HBR.out
          clear hrw hf hu hz hiz hku
          go_wp2_with fail
          refine HC.out.mono ?_
          rintro e w5 ⟨d5, rfl, hst5, hb5⟩
          have B5 := Lib.hid hb5
          have S5 := Lib.hid hst5
          have AL : Hid (Below w5.heap.size w5 (w5.alloc (cbox d5))) := Lib.hid ((Below.refl _ _).alloc (Nat.le_refl _) _)
          clear hst5 hb5 c0 c1 c2 c3 c4 c5 c6 HC
          go_wp2_with (at_builtin; refine wpList_append_cells rfl _ _ rfl w3.heap.size u5 _ cs [d5] rfl ((HGR.out.row.up B5.out).up AL.out) rfl (OwnC.one w5 0 (Nat.zero_le _) d5).row (by simp) (by have := HLC.out; simp only [List.length_cons, List.length_nil]; omega) w3 ((HBR.out.trans (B5.out.mono HBR.out.size)).trans (AL.out.mono (Nat.le_trans HBR.out.size B5.out.size))) (Nat.le_refl _) ?_; intro g3 cap6 w6 hown3 hb6 hgr3 hpl3)
          have HF6 := Lib.hid (HGR.out.one B5.out AL.out HBR.out.size S5.out hown3 hgr3 hpl3)
          have HB6 := Lib.hid hb6
          clear hown3 hb6 hgr3 hpl3
          have e9 : wrap64 ((k : Int) + 1) = ((k + 1 : Nat) : Int) := by have := HFN.out; rw [← wrapE, wrap_id (by omega)]; omega
          go_wp2
          go_roundg (gk - 1)
          case measure => have := HGG.out; omega
          case rel =>
            refine ⟨k + 1, cs ++ [d5], by have := HGG.out; omega, by omega, by first | rfl | exact congrArg _ e9 | (rw [e9]) | (congr 1; omega) | (simp only [IntKind.wrap_i64, e9]), ?_, HB6.out⟩
            rw [HST.out]
            simpa using HF6.out
        · obtain rfl : k = t.kids.length := by omega
          have hkk : ((t.kids.length : Int) < (t.kids.length : Int)) = False := by simp
          have HGF : Hid (Grove (fun _ => True) wr w3.heap.size u5 cs ((spK t).map (alF N))) := Lib.hid (by have := HGR.out; rw [List.take_of_length_le (by rw [HKL.out]; omega)] at this; exact this)
          obtain ⟨a', cap', rfl⟩ := HGF.out.row.row.shape
          clear HGR
          have h3s : Hid (w.heap.size + 2 ≤ w3.heap.size) := Lib.hid (lt_of_block L3.out.zero)
          obtain ⟨c0, c1, c2, c3, c4, c5, c6⟩ := LR.out.box.cat
          simp only [Nat.zero_add] at c1 c2 c3 c4 c5 c6
          have g6 := LR.out.box.free 6
          obtain ⟨⟨z0, z1, z2, z3, z4, z5, z6⟩, f0, f1, f2, f3, f4, f5, f6⟩ := zero_parts LR.out.zero
          go_wp2
          (try simp only [Exit.inBlock, Exit.then])
          have hz2 : Box7 (wr.setCell ⟨w.heap.size, 6, none⟩ (.slice a' cs.length cap')) (w.heap.size + 1) ⟨0, ⟨0, 0, 0, 0⟩, 0, none, 0, 0⟩ := (row_other _ (by omega)).trans LR.out.zero
          refine bodyPost_ret (results_cell1 rfl _ _ (w.heap.size + 1) ⟨ck, cr, cid, a', cs.length, cap'⟩ rfl (hz2.put ⟨ck, cr, cid, a', cs.length, cap'⟩)) rfl ?_
          exact al_end HAL.out LR.out.below HGF.out h3s.out HFC.out.1 HFC.out.2.1 HFC.out.2.2.1 (by rw [List.length_map, HKL.out]; have := HFN.out; omega)

set_option maxHeartbeats 8000000 in
set_option maxRecDepth 100000 in
theorem rallS_any (t : T) (c : C) (w : World) (hm : sz t ≤ 990) (hi : Is w c t) :
    Calls Try.prog 12 #[cval c] w (AtSays (alE t) (setT t.r.x t.r.y (alT t)) w) := by
  have L0 := Lib.hid (ASt.start w c)
  have HI := Lib.hid hi
  have HM := Lib.hid hm
  have HT := Lib.hid (rtiles8_any t c (cellW w c) (L0.out.is hi) (by omega))
  have HFC := Lib.hid hi.fine
  have HSPL := Lib.hid hi.split
  clear hi hm
  go_enter Try.func12, Try.ntmps12
  go_upto_region 1 with fail
  change Code.wp _ _ _ _ (cellW w c)
  generalize cellW w c = W0 at L0 HT ⊢
  obtain ⟨c0, c1, c2, c3, c4, c5, c6⟩ := c7_of L0.out.box.cat
  go_wp2_with fail
  refine HT.out.mono ?_
  rintro e w1 ⟨rfl, hb1⟩
  have L1 := Lib.hid (L0.out.up hb1)
  clear hb1 c0 c1 c2 c3 c4 c5 c6 HT L0
  cases ht : tileB t with
  | false =>
    have HE : Hid (alE t = 1) := Lib.hid (by unfold alE; rw [if_neg (by rw [ht]; decide)])
    clear ht
    obtain ⟨⟨z0, z1, z2, z3, z4, z5, z6⟩, f0, f1, f2, f3, f4, f5, f6⟩ := zero_parts L1.out.zero
    go_wp2
    (try simp only [Exit.inBlock, Exit.then])
    refine bodyPost_ret (results_c2 rfl _ _ (w.heap.size + 1) zC rfl ((Box7.of_zero L1.out.zero).put zC)) rfl ?_
    rw [HE.out]
    exact at_err (by decide) (below_put7 L1.out.below (by omega) zC)
  | true =>
    have HE : Hid (alE t = 0) := Lib.hid (if_pos ht)
    have D3 : Hid (ASt w c w1.drew) := Lib.hid (L1.out.up (Below.refl _ _).drew)
    have HAL := Lib.hid (rall_sp (sz t) t c w1.drew (Nat.le_refl _) HM.out ht (D3.out.is HI.out))
    have HSET := Lib.hid (fun (d : C) (W : World) (hI : Is W d (alT t)) => rset_any (sz (alT t)) (alT t) d c.r.x c.r.y W (Nat.le_refl _) HFC.out.2.1.1 HFC.out.2.1.2.1 hI)
    have X3 := Lib.hid (c7_of D3.out.box.cat)
    obtain ⟨c0, c1, c2, c3, c4, c5, c6⟩ := c7_of L1.out.box.cat
    clear ht
    go_wp2_with fail
    go_region_held3 (fun W => W.cell? ⟨w.heap.size, 0, none⟩ = some (.int .u8 c.k) ∧ W.cell? ⟨w.heap.size, 1, none⟩ = some (.int .i64 c.r.x) ∧ W.cell? ⟨w.heap.size, 2, none⟩ = some (.int .i64 c.r.y) ∧ W.cell? ⟨w.heap.size, 3, none⟩ = some (.int .i64 c.r.w) ∧ W.cell? ⟨w.heap.size, 4, none⟩ = some (.int .i64 c.r.h) ∧ W.cell? ⟨w.heap.size, 5, none⟩ = some (.int .i64 c.id) ∧ W.cell? ⟨w.heap.size, 6, none⟩ = some (.slice c.a c.n c.cap)) (first | with_reducible exact X3.out | with_reducible exact X4.out | with_reducible exact X5.out | with_reducible exact X6.out)
      (first
        | (go_at_call 21; (with_reducible refine HAL.out.mono ?_); rintro e w4 ⟨d4, rfl, hst4, hb4⟩; have L4 := Lib.hid (D3.out.up hb4); have X4 := Lib.hid (c7_of L4.out.box.cat); have I4 : Hid (Is w4 d4 (alT t)) := Lib.hid (hst4.is trivial); clear hst4 hb4)
        | (go_at_call 20; (with_reducible refine (HSET.out d4 w4 I4.out).mono ?_); rintro e w5 ⟨d5, S5, rfl, hown5, -, hb5⟩; have L5 := Lib.hid (L4.out.up hb5); have X5 := Lib.hid (c7_of L5.out.box.cat); have O5 := Lib.hid hown5; have X6 := Lib.hid (c7_put7 (k := w.heap.size + 1) (x := d5) X5.out (by omega)); obtain ⟨⟨z0, z1, z2, z3, z4, z5, z6⟩, f0, f1, f2, f3, f4, f5, f6⟩ := zero_parts L5.out.zero; clear hown5 hb5))
    go_wp2
    (try simp only [Exit.inBlock, Exit.then])
    refine bodyPost_ret (results_c2 rfl _ _ (w.heap.size + 1) d5 rfl ((Box7.of_zero L5.out.zero).put d5)) rfl ?_
    rw [HE.out, HSPL.out.2.1]
    exact at_ok rfl (stands_put L5.out O5.out rfl (lt_of_block L4.out.zero)) (below_put7 L5.out.below (by omega) d5)
end Go.Proofs.Ytcdiogifgemjbaa
/- The law SpreadAll. -/
namespace Go.Proofs.Ytcdiogifgemjbaa
open Go.RowKit

/-- What the program answers: by its number, and the tree. -/
def PrSays (n : Int) (u : T) (w : World) (e : Ending) (w' : World) : Prop := ∃ d, e = .returned (.tuple #[cval d, .int .i64 n]) ∧ Is w' d (if n = 0 then u else zT) ∧ Below w.heap.size w w'
def SpAllK : Prop := ∀ (t : T) (c : C) (w : World), sz t ≤ 990 → Is w c t → Calls Try.prog 11 #[cval c] w (PrSays (alE t) (setT t.r.x t.r.y (alT t)) w)

structure QSp (w : World) (c : C) (W : World) : Prop where
  below : Below w.heap.size w W
  cat : CAt W w.heap.size 0 c
theorem QSp.up {w : World} {c : C} {W W' : World} (h : QSp w c W) (hb : Below W.heap.size W W') : QSp w c W' := ⟨h.below.trans (hb.mono h.below.size), h.cat.up hb⟩
theorem QSp.c7 {w : World} {c : C} {W : World} (h : QSp w c W) : C7 w.heap.size c W := c7_of h.cat
theorem QSp.new (w : World) (c : C) : QSp w c (w.alloc (cbox c)) := ⟨(Below.refl _ _).alloc (Nat.le_refl _) _, cbox_new w c⟩

set_option maxHeartbeats 2000000 in
set_option maxRecDepth 100000 in
theorem spreadAll_any (HK : EvnK) (HA : SpAllK) (t : T) (c : C) (w : World) (hi : Is w c t) (hs : sz t ≤ 1099511627776) : Calls Try.prog 4 #[cval c] w fun e w' => e = .returned (.bool true) ∧ Below w.heap.size w w' := by
  have S0 := Lib.hid (QSp.new w c)
  have HG := Lib.hid (great_any t c (w.alloc (cbox c)) (hi.up S0.out.below))
  have HI := Lib.hid hi
  have HAW := Lib.hid (awake16_any HK)
  clear hi HK
  obtain ⟨c0, c1, c2, c3, c4, c5, c6⟩ := S0.out.c7
  go_enter Try.func4, Try.ntmps4
  go_wp2_with fail
  refine HG.out.mono ?_
  rintro e w1 ⟨g, rfl, hg, hb1⟩
  have S1 := Lib.hid (S0.out.up hb1)
  have HGR := Lib.hid hg
  clear hb1 hg c0 c1 c2 c3 c4 c5 c6
  cases g with
  | true =>
    go_wp2_with fail
    refine (HAW.out w1).mono ?_
    rintro e w2 ⟨rfl, hb2⟩
    have S2 := Lib.hid (S1.out.up hb2)
    clear hb2
    go_wp2
    go_ret
    exact ⟨rfl, S2.out.below⟩
  | false =>
    have hsz : sz t ≤ 200 := HGR.out rfl hs
    have HRA := Lib.hid (rall_any w1 (sz t) t c w1 (Nat.le_refl _) (by omega) (HI.out.up S1.out.below) (Below.refl _ _))
    have K1 : Hid (∀ W, QSp w c W → Calls Try.prog 11 #[cval c] W fun e w' => ∃ d, e = .returned (.tuple #[cval d, .int .i64 (alE t)]) ∧ Is w' d (if alE t = 0 then setT t.r.x t.r.y (alT t) else zT) ∧ Below W.heap.size W w') := Lib.hid fun W h => HA t c W (by omega) (HI.out.up h.below)
    have K2 : Hid (∀ W, QSp w c W → Calls Try.prog 12 #[cval c] W fun e w' => ∃ d, e = .returned (.tuple #[cval d, .int .i64 (alE t)]) ∧ Is w' d (if alE t = 0 then setT t.r.x t.r.y (alT t) else zT) ∧ Below W.heap.size W w') := Lib.hid fun W h => (rallS_any t c W (by omega) (HI.out.up h.below)).mono fun e w' h => at_all h
    clear hsz hs HGR HA
    generalize (if alE t = 0 then setT t.r.x t.r.y (alT t) else zT) = u at K1 K2
    generalize alE t = n at K1 K2
    have K5 := Lib.hid (fun (d f : C) W (h : Is W d u) (h' : Is W f u) => rsame_any (sz u) u u d f W (Nat.le_refl _) h h')
    rw [(sameT_iff u u).2 rfl] at K5
    have b1 : (n == n) = true := by simp
    obtain ⟨c0, c1, c2, c3, c4, c5, c6⟩ := S1.out.c7
    go_wp2_with fail
    refine HRA.out.mono ?_
    rintro e wA ⟨v, cs, rfl, hown, -, hbA⟩
    have SA := Lib.hid (S1.out.up hbA)
    obtain ⟨va, vcap, rfl⟩ := hown.row.shape
    clear hbA hown c0 c1 c2 c3 c4 c5 c6 HRA
    generalize cs.length = m
    by_cases hm : 100 < m
    · have d1 : decide ((100 : Int) < (m : Int)) = true := decide_eq_true (by omega)
      go_wp2_with fail
      refine (HAW.out wA).mono ?_
      rintro e w2 ⟨rfl, hb2⟩
      have S2 := Lib.hid (SA.out.up hb2)
      clear hb2
      go_wp2
      go_ret
      exact ⟨rfl, S2.out.below⟩
    · have d1 : decide ((100 : Int) < (m : Int)) = false := decide_eq_false (by omega)
      obtain ⟨c0, c1, c2, c3, c4, c5, c6⟩ := SA.out.c7
      go_wp2_with fail
      refine (K1.out wA SA.out).mono ?_
      rintro e w2 ⟨d, rfl, hd, hb2⟩
      have al2 : Below w2.heap.size w2 (w2.alloc (cbox d)) := (Below.refl _ _).alloc (Nat.le_refl _) _
      have S2 := Lib.hid ((SA.out.up hb2).up al2)
      have D2 := Lib.hid (hd.up al2)
      have X2 := Lib.hid (Box7.new w2 d)
      clear hb2 hd al2 c0 c1 c2 c3 c4 c5 c6 hm d1
      obtain ⟨c0, c1, c2, c3, c4, c5, c6⟩ := S2.out.c7
      go_wp2_with fail
      refine (K2.out _ S2.out).mono ?_
      rintro e w3 ⟨f, rfl, hf, hb3⟩
      have al3 : Below w3.heap.size w3 (w3.alloc (cbox f)) := (Below.refl _ _).alloc (Nat.le_refl _) _
      have S3 := Lib.hid ((S2.out.up hb3).up al3)
      have D3 := Lib.hid ((D2.out.up hb3).up al3)
      have F3 := Lib.hid (hf.up al3)
      have X3 := Lib.hid ((X2.out.up hb3).up al3)
      have Y3 := Lib.hid (Box7.new w3 f)
      clear hb3 hf al3 c0 c1 c2 c3 c4 c5 c6
      obtain ⟨c0, c1, c2, c3, c4, c5, c6⟩ := c7_of X3.out.cat
      obtain ⟨q0, q1, q2, q3, q4, q5, q6⟩ := c7_of Y3.out.cat
      go_wp2_with fail
      refine (K5.out d f _ D3.out F3.out).mono ?_
      rintro e w6 ⟨rfl, hb6⟩
      have S6 := Lib.hid (S3.out.up hb6)
      clear hb6 c0 c1 c2 c3 c4 c5 c6 q0 q1 q2 q3 q4 q5 q6
      go_wp2_with fail
      refine (HAW.out w6).mono ?_
      rintro e w7 ⟨rfl, hb7⟩
      have S7 := Lib.hid (S6.out.up hb7)
      clear hb7
      go_wp2
      go_ret
      exact ⟨rfl, S7.out.below⟩
theorem spreadAll_wf (HK : EvnK) (HA : SpAllK) (v0 : Value) (t : T) (c : C) (w : World) (e0 : v0 = cval c) (hi : Is w c t) (hs : sz t ≤ 1048576) :
    Calls Try.prog 4 #[v0] w fun e w' => e = .returned (.bool true) ∧ Below w.heap.size w w' := by
  subst e0
  exact spreadAll_any HK HA t c w hi (by omega)
end Go.Proofs.Ytcdiogifgemjbaa
/- A cell whose kids are of one size, as the program makes it: each cell's least sizes are told beforehand, and kids stand where their cell begins. No walk. -/
namespace Go.Proofs.Ytcdiogifgemjbaa
open Go.RowKit

mutual
/-- Each cell as small as it can be. -/
def loT : T → T
  | .node k r i l => .node k ⟨0, 0, lsT 1 (.node k r i l), lsT 2 (.node k r i l)⟩ 0 (loL l)
def loL : List T → List T
  | [] => []
  | t :: l => loT t :: loL l
end
theorem loL_map : ∀ l : List T, loL l = l.map loT
  | [] => rfl
  | t :: l => by rw [loL, List.map_cons, loL_map l]
theorem loT_eq (t : T) : loT t = .node t.k ⟨0, 0, lsT 1 t, lsT 2 t⟩ 0 (loL t.kids) := by cases t; rw [loT]; rfl
theorem loL_get (l : List T) (j : Nat) : (loL l)[j]? = (l[j]?).map loT := by rw [loL_map, List.getElem?_map]
theorem loL_len (l : List T) : (loL l).length = l.length := by rw [loL_map, List.length_map]
theorem loL_step {l : List T} {j : Nat} {u : T} (h : l[j]? = some u) : loL (l.take (j + 1)) = loL (l.take j) ++ [loT u] := by
  rw [loL_map, loL_map, List.take_add_one, h]; simp
mutual
theorem lo_set : ∀ (x y : Int) (t : T), loT (setT x y t) = loT t
  | x, y, .node k r i l => by
    have h1 := ls_set 1 x y (.node k r i l)
    have h2 := ls_set 2 x y (.node k r i l)
    rw [setT] at h1 h2 ⊢
    rw [loT, loT, h1, h2, lo_setL k x y l]
theorem lo_setL (k : Int) : ∀ (x y : Int) (l : List T), loL (setL k x y l) = loL l
  | x, y, [] => by simp [setL]
  | x, y, t :: l => by rw [setL, loL, loL, lo_set x y t, lo_setL k _ _ l]
end
mutual
theorem lo_adj (ax : Int) : ∀ (b : Int) (t : T), loT (adjT ax b t) = loT t
  | b, .node k r i l => by
    have h1 := ls_adj ax 1 b (.node k r i l)
    have h2 := ls_adj ax 2 b (.node k r i l)
    rw [adjT] at h1 h2 ⊢
    rw [loT, loT, h1, h2, lo_adjL ax _ l]
theorem lo_adjL (ax : Int) : ∀ (s : Nat → Int) (l : List T), loL (adjL ax s l) = loL l
  | s, [] => by simp [adjL]
  | s, t :: l => by rw [adjL, loL, loL, lo_adj ax (s 0) t, lo_adjL ax _ l]
end
mutual
theorem lo_sz : ∀ t : T, sz (loT t) = sz t
  | .node k r i l => by rw [loT, sz, sz, loL_sz l]
theorem loL_sz : ∀ l : List T, szL (loL l) = szL l
  | [] => rfl
  | t :: l => by rw [loL, szL, szL, lo_sz t, loL_sz l]
end
theorem lo_szA {ax : Int} (hax : ax = 1 ∨ ax = 2) (t : T) : szA (loT t).r ax = lsT ax t := by
  rw [loT_eq]
  rcases hax with rfl | rfl <;> rfl

/-- The kids, where the cell begins. -/
noncomputable def svQ (t : T) : List T := (adjL (t.k - 1) (svS t) t.kids).map (setT t.r.x t.r.y)
noncomputable def svP (t : T) : T := .node t.k t.r t.id (svQ t)
theorem svQ_len (t : T) : (svQ t).length = t.kids.length := by unfold svQ; rw [List.length_map, adjL_len]
theorem aj_at {ax b x y : Int} {u : T} : ajT ax b (setT x y u) = setT x y (adjT ax b u) := by
  unfold ajT
  rw [set_r]
  exact adj_set ax b x y x y u
theorem svQ_get {t : T} {j : Nat} {u : T} (h : t.kids[j]? = some u) : (svQ t)[j]? = some (ajT (t.k - 1) (svS t j) (setT t.r.x t.r.y u)) := by
  unfold svQ
  rw [List.getElem?_map, adjL_get, h, aj_at]; rfl
theorem svQ_step {t : T} {j : Nat} {u : T} (h : t.kids[j]? = some u) : (svQ t).take (j + 1) = (svQ t).take j ++ [ajT (t.k - 1) (svS t j) (setT t.r.x t.r.y u)] := by
  rw [List.take_add_one, svQ_get h]; rfl
theorem svQ_sz (t : T) : szL (svQ t) = szL t.kids := by
  unfold svQ
  rw [szL_map _ fun u _ => setT_sz _ _ u, adjL_sz]
theorem svQ_lo (t : T) : (svQ t).map loT = t.kids.map loT := by
  refine List.ext_getElem? fun j => ?_
  rw [List.getElem?_map, List.getElem?_map]
  cases h : t.kids[j]? with
  | none =>
    have : t.kids.length ≤ j := List.getElem?_eq_none_iff.1 h
    rw [List.getElem?_eq_none (by rw [svQ_len]; exact this)]
  | some u => rw [svQ_get h, aj_at]; simp only [Option.map_some, lo_set, lo_adj]

/-- A kid of what tiles can be of that size, where the cell begins, just if it is no smaller than it can be least. -/
theorem svp_kid {t : T} {j : Nat} {u : T} (hs : sz t ≤ 20000) (ht : tileB t = true) (hk : t.k ≠ 1) (ho : okEv (szA t.r (t.k - 1)) t.kids.length) (h : t.kids[j]? = some u) :
    tileB (setT t.r.x t.r.y u) = true ∧ (ajE (t.k - 1) (svS t j) (setT t.r.x t.r.y u) = 0 ↔ lsT (t.k - 1) u ≤ evZ (szA t.r (t.k - 1)) t.kids.length j) := by
  obtain ⟨-, hax, h3, h4, h5, h6, -⟩ := sv_kid hs ht hk ho h
  have hw := (tile_top hs ht).1
  have hr := may_rect (well_rect hw)
  have hin := kid_in hs ht h
  have htu := tile_kid hs ht h
  have hsu : sz u ≤ 20000 := by have := sz_kid h; omega
  have hru := may_rect (well_rect (tile_top hsu htu).1)
  have hset : tileB (setT t.r.x t.r.y u) = true := set_tile hsu htu (by omega) (by omega) (by omega) (by omega)
  have hb := ev_bounds ho j
  have haxb : axB (t.k - 1) = true := (axB_iff _).2 hax
  have hat : atA t.r (t.k - 1) + szA t.r (t.k - 1) ≤ 10000 := by
    rcases hax with e | e <;> rw [e]
    · show t.r.x + t.r.w ≤ 10000; omega
    · show t.r.y + t.r.h ≤ 10000; omega
  have hau : atA (setT t.r.x t.r.y u).r (t.k - 1) = atA t.r (t.k - 1) := by rw [set_r]; rfl
  refine ⟨hset, ?_⟩
  rw [aj_do ⟨hset, haxb⟩, hau, set_szA, ls_set, svS_at h]
  obtain ⟨hb1, hb2, -⟩ := hb
  generalize evZ (szA t.r (t.k - 1)) t.kids.length j = e at *
  generalize szA t.r (t.k - 1) = S at *
  constructor
  · intro h0
    split at h0
    · omega
    · omega
  · intro h0
    rw [if_neg (by omega)]
theorem svp_ok {t : T} (hs : sz t ≤ 20000) (ht : tileB t = true) (hk : t.k ≠ 1) (ho : okEv (szA t.r (t.k - 1)) t.kids.length) (h : ∀ (j : Nat) (u : T), t.kids[j]? = some u → lsT (t.k - 1) u ≤ evZ (szA t.r (t.k - 1)) t.kids.length j) : svE t = 0 :=
  svE_ok hk ho fun hb => by
    obtain ⟨j, u, hu, hn⟩ := (sv_bad_iff hs ht hk ho).1 hb
    have := h j u hu; omega
theorem svp_no {t : T} {j : Nat} {u : T} (hs : sz t ≤ 20000) (ht : tileB t = true) (hk : t.k ≠ 1) (ho : okEv (szA t.r (t.k - 1)) t.kids.length) (h : t.kids[j]? = some u) (hn : evZ (szA t.r (t.k - 1)) t.kids.length j < lsT (t.k - 1) u) : svE t = 7 :=
  svE_bad hk ho ((sv_bad_iff hs ht hk ho).2 ⟨j, u, h, hn⟩)
/-- What is spread has kids that tile. -/
theorem svQ_tile {t : T} (hs : sz t ≤ 20000) (ht : tileB t = true) (h0 : svE t = 0) : ∀ v ∈ svQ t, tileB v = true := by
  intro v hv
  obtain ⟨hk, ho, hb⟩ := svE_zero h0
  obtain ⟨j, hj, rfl⟩ := List.getElem_of_mem hv
  have hj' : j < t.kids.length := by rw [svQ_len] at hj; exact hj
  obtain ⟨u, hu⟩ : ∃ u, t.kids[j]? = some u := ⟨_, List.getElem?_eq_getElem hj'⟩
  have hg := svQ_get hu
  have hg0 := svL_get hu
  rw [List.getElem?_eq_getElem hj] at hg
  rw [Option.some.inj hg]
  have hsu : sz u ≤ 20000 := by have := sz_kid hu; omega
  have h1 := sv_tile hs ht h0 _ (List.mem_of_getElem? hg0)
  obtain ⟨-, hax, h3, h4, h5, h6, h7⟩ := sv_kid hs ht hk ho hu
  have hr := may_rect (well_rect (tile_top hs ht).1)
  have hin := kid_in hs ht hu
  have he := svS_at hu
  obtain ⟨hb1, hb2, -⟩ := ev_bounds ho j
  rw [aj_sp] at h1
  rw [aj_at]
  have h2 : setT t.r.x t.r.y (adjT (t.k - 1) (svS t j) u) = setT t.r.x t.r.y (setT 0 0 (adjT (t.k - 1) (svS t j) u)) := (set_set ..).symm
  rw [h2]
  have hrw : (setT 0 0 (adjT (t.k - 1) (svS t j) u)).r = ⟨0, 0, (adjR (t.k - 1) (svS t j) u.r).w, (adjR (t.k - 1) (svS t j) u.r).h⟩ := by rw [set_r, adjT_r]
  refine set_tile (by rw [setT_sz, adjT_sz]; exact hsu) h1 (by omega) ?_ (by omega) ?_
  · rw [hrw]
    unfold adjR
    unfold szA at he hb2
    split
    · rename_i h; rw [if_pos h] at he hb2; rw [if_pos h] at he; simp only; omega
    · simp only; omega
  · rw [hrw]
    unfold adjR
    unfold szA at he hb2
    split
    · simp only; omega
    · rename_i h; rw [if_neg h] at he hb2; rw [if_neg h] at he; simp only; omega

/-- The same, wherever they stand. -/
def eqS (u v : T) : Prop := setT 0 0 u = setT 0 0 v
theorem eqS_at {u v : T} (h : eqS u v) (x y : Int) : setT x y u = setT x y v := by
  rw [← set_set 0 0 x y u, ← set_set 0 0 x y v, show setT 0 0 u = setT 0 0 v from h]
theorem eqS_set (x y : Int) (u : T) : eqS (setT x y u) u := set_set x y 0 0 u
theorem eqS_r {u v : T} (h : eqS u v) : u.r.w = v.r.w ∧ u.r.h = v.r.h := by
  have h1 : (setT 0 0 u).r = (setT 0 0 v).r := by rw [show setT 0 0 u = setT 0 0 v from h]
  rw [set_r, set_r] at h1
  injection h1 with g1 g2 g3 g4
  exact ⟨g3, g4⟩
theorem map_setL (k : Int) : ∀ (x y : Int) (l : List T), (setL k x y l).map (setT 0 0) = l.map (setT 0 0)
  | x, y, [] => by simp [setL]
  | x, y, t :: l => by rw [setL, List.map_cons, List.map_cons, set_set, map_setL k _ _ l]
theorem setL_eqS (k : Int) : ∀ (l m : List T) (x y : Int), l.map (setT 0 0) = m.map (setT 0 0) → setL k x y l = setL k x y m
  | [], [], x, y, _ => rfl
  | [], _ :: _, x, y, h => by simp at h
  | _ :: _, [], x, y, h => by simp at h
  | t :: l, u :: m, x, y, h => by
    rw [List.map_cons, List.map_cons] at h
    injection h with h1 h2
    have h3 : eqS t u := h1
    rw [setL, setL, eqS_at h3 x y, nxX_w (eqS_r h3).1, nxY_h (eqS_r h3).2, setL_eqS k l m _ _ h2]
theorem eqS_node {k i : Int} {r s : R} {l m : List T} (hw : r.w = s.w) (hh : r.h = s.h) (h : l.map (setT 0 0) = m.map (setT 0 0)) : eqS (.node k r i l) (.node k s i m) := by
  unfold eqS
  rw [setT, setT, hw, hh, setL_eqS k l m 0 0 h]
theorem eqS_parts {u v : T} (h : eqS u v) : u.k = v.k ∧ u.id = v.id ∧ u.kids.map (setT 0 0) = v.kids.map (setT 0 0) := by
  have h1 : setT 0 0 u = setT 0 0 v := h
  rw [setT_eq, setT_eq] at h1
  injection h1 with g1 g2 g3 g4
  refine ⟨g1, g3, ?_⟩
  rw [← map_setL u.k 0 0 u.kids, g4, map_setL]

theorem svS_set (x y : Int) (t : T) : svS (setT x y t) = svS t := by
  funext j
  unfold svS
  rw [setT_eq]
  show evZ (szA ⟨x, y, t.r.w, t.r.h⟩ (t.k - 1)) (setL t.k x y t.kids).length j - szA ((setL t.k x y t.kids).getD j default).r (t.k - 1) = _
  rw [setL_length, List.getD_eq_getElem?_getD, List.getD_eq_getElem?_getD, setL_get]
  cases t.kids[j]? with
  | none => rfl
  | some u =>
    simp only [Option.map_some, Option.getD_some]
    rw [set_szA]; rfl
theorem svB_set (x y : Int) (t : T) : svB (setT x y t) ↔ svB t := by
  have hs := svS_set x y t
  have hk : (setT x y t).k = t.k := by rw [setT_eq]; rfl
  have hg : ∀ j, (setT x y t).kids[j]? = (t.kids[j]?).map (setT (pX t.k x (t.kids.take j)) (pY t.k y (t.kids.take j))) := fun j => by
    rw [setT_eq]; exact setL_get t.k t.kids x y j
  unfold svB
  rw [hs, hk]
  constructor
  · rintro ⟨j, u, hu, hn⟩
    rw [hg] at hu
    cases hv : t.kids[j]? with
    | none => rw [hv] at hu; cases hu
    | some v =>
      rw [hv] at hu; cases hu
      rw [set_set] at hn
      exact ⟨j, v, hv, hn⟩
  · rintro ⟨j, u, hu, hn⟩
    refine ⟨j, setT (pX t.k x (t.kids.take j)) (pY t.k y (t.kids.take j)) u, by rw [hg, hu]; rfl, ?_⟩
    rw [set_set]; exact hn
theorem svE_set (x y : Int) (t : T) : svE (setT x y t) = svE t := by
  have hb : svB (setT x y t) = svB t := propext (svB_set x y t)
  unfold svE
  rw [hb]
  rw [setT_eq]
  show (if t.k = 1 then (10 : Int) else @ite Int (okEv (szA ⟨x, y, t.r.w, t.r.h⟩ (t.k - 1)) (setL t.k x y t.kids).length) (Classical.propDecidable _) _ 7) = _
  rw [setL_length]; rfl
theorem svL_set (x y : Int) (t : T) : svL (setT x y t) = svL t := by
  refine List.ext_getElem? fun j => ?_
  unfold svL
  rw [svS_set, List.getElem?_map, List.getElem?_map, adjL_get, adjL_get]
  have hk : (setT x y t).k = t.k := by rw [setT_eq]; rfl
  have hg : (setT x y t).kids[j]? = (t.kids[j]?).map (setT (pX t.k x (t.kids.take j)) (pY t.k y (t.kids.take j))) := by
    rw [setT_eq]; exact setL_get t.k t.kids x y j
  rw [hk, hg]
  cases t.kids[j]? with
  | none => rfl
  | some u => simp only [Option.map_some, adj_set]
theorem svQ_map (t : T) : (svQ t).map (setT 0 0) = (svL t).map (setT 0 0) := by
  unfold svQ svL
  rw [List.map_map, List.map_map]
  refine List.map_congr_left fun u _ => ?_
  simp only [Function.comp, set_set]

/-- All of them, as the program spreads them. -/
noncomputable def prK (t : T) : List T := if svE t = 0 then svQ t else t.kids
noncomputable def prF : Nat → T → T
  | 0, t => t
  | n + 1, t => .node t.k t.r t.id ((prK t).map (prF n))
theorem map_two {f g : T → T} (h : ∀ u v, eqS u v → eqS (f u) (g v)) : ∀ l m : List T, l.map (setT 0 0) = m.map (setT 0 0) → (l.map f).map (setT 0 0) = (m.map g).map (setT 0 0)
  | [], [], _ => rfl
  | [], _ :: _, h => by simp at h
  | _ :: _, [], h => by simp at h
  | t :: l, u :: m, hm => by
    rw [List.map_cons, List.map_cons] at hm
    injection hm with h1 h2
    have h3 : setT 0 0 (f t) = setT 0 0 (g u) := h t u h1
    simp only [List.map_cons]
    rw [h3, map_two h l m h2]
theorem pr_al : ∀ (N : Nat) (u v : T), eqS u v → eqS (prF N u) (alF N v)
  | 0, u, v, h => h
  | N + 1, u, v, h => by
    obtain ⟨hk, hi, hm⟩ := eqS_parts h
    obtain ⟨hw, hh⟩ := eqS_r h
    have hse : svE u = svE v := by
      rw [← svE_set 0 0 u, ← svE_set 0 0 v, show setT 0 0 u = setT 0 0 v from h]
    have hsl : svL u = svL v := by
      rw [← svL_set 0 0 u, ← svL_set 0 0 v, show setT 0 0 u = setT 0 0 v from h]
    have hkk : (prK u).map (setT 0 0) = (if svE v = 0 then svL v else v.kids).map (setT 0 0) := by
      unfold prK
      rw [hse]
      split
      · rw [svQ_map, hsl]
      · exact hm
    rw [prF, alF, hk, hi]
    exact eqS_node hw hh (map_two (fun a b hab => pr_al N a b hab) _ _ hkk)
theorem prK_all {t : T} (hs : sz t ≤ 20000) (ht : tileB t = true) : (prK t).length = t.kids.length ∧ szL (prK t) = szL t.kids ∧ (prK t).map loT = t.kids.map loT ∧ ∀ (j : Nat) (u : T), (prK t)[j]? = some u → tileB u = true ∧ sz u < sz t := by
  have hL : szL (prK t) = szL t.kids := by unfold prK; split; exact svQ_sz t; rfl
  refine ⟨by unfold prK; split; exact svQ_len t; rfl, hL, by unfold prK; split; exact svQ_lo t; rfl, fun j u hu => ⟨?_, ?_⟩⟩
  · unfold prK at hu
    split at hu
    · rename_i h0
      exact svQ_tile hs ht h0 u (List.mem_of_getElem? hu)
    · exact tile_kid hs ht hu
  · have h1 := szL_mem hu
    have := sz_node t
    omega

/-- A cell of what tiles, in whose place another one of its size stands. -/
theorem put_size : ∀ (q : List Int) (t y X : T), sz t ≤ 20000 → tileB t = true → atT t q = some y → X.r.w = y.r.w → X.r.h = y.r.h →
    ∃ Y, putT X t q = some Y ∧ Y.r.w = t.r.w ∧ Y.r.h = t.r.h ∧ putT (setT y.r.x y.r.y X) t q = some (setT t.r.x t.r.y Y)
  | [], t, y, X, hs, ht, hy, hw, hh => by
    rw [atT] at hy; cases hy
    exact ⟨X, rfl, hw, hh, rfl⟩
  | k :: q, t, y, X, hs, ht, hy, hw, hh => by
    rw [atT] at hy
    cases hk : kidAt t k with
    | none => rw [hk] at hy; cases hy
    | some v =>
      rw [hk] at hy
      obtain ⟨j, rfl, hj⟩ := kid_some hk
      have h1 := sz_kid hj
      obtain ⟨Y, g1, g2, g3, g4⟩ := put_size q v y X (by omega) (tile_kid hs ht hj) hy hw hh
      refine ⟨setKid t j Y, ?_, rfl, rfl, ?_⟩
      · rw [putT, hk]; simp only [g1, Int.toNat_natCast]
      · rw [putT, hk]
        simp only [g4, Int.toNat_natCast]
        congr 1
        have hjl := (List.getElem?_eq_some_iff.1 hj).1
        have hk2 : setL t.k t.r.x t.r.y (t.kids.set j Y) = t.kids.set j (setT v.r.x v.r.y Y) := by
          refine List.ext_getElem? fun i => ?_
          rw [setL_get, pX_same _ (t.kids.take i) _ (map_set_same hj g2 i), pY_same _ (t.kids.take i) _ (map_set_same hj g3 i)]
          by_cases hij : j = i
          · subst hij
            obtain ⟨h1, h2⟩ := fit_at hs ht hj
            rw [List.getElem?_set_self hjl, List.getElem?_set_self hjl, h1, h2]
            rfl
          · rw [List.getElem?_set_ne hij, List.getElem?_set_ne hij]
            cases hu : t.kids[i]? with
            | none => rfl
            | some u =>
              obtain ⟨h1, h2⟩ := fit_at hs ht hu
              have h3 := sz_kid hu
              rw [h1, h2]
              exact congrArg some (set_id (sz u) u (Nat.le_refl _) (by omega) (tile_kid hs ht hu))
        rw [setT_eq t.r.x t.r.y (setKid t j Y)]
        show setKid t j (setT v.r.x v.r.y Y) = T.node t.k ⟨t.r.x, t.r.y, t.r.w, t.r.h⟩ t.id (setL t.k t.r.x t.r.y (t.kids.set j Y))
        rw [hk2]; rfl
/-- What the program puts there is what the document's is, when all is set. -/
theorem at_put {t u : T} {p : List Int} (hs : sz t ≤ 20000) (ht : tileB t = true) (hu : atT t p = some u) : putT (setT u.r.x u.r.y (svP u)) t p = some (atS t p) := by
  obtain ⟨Y, g1, -, -, g4⟩ := put_size p t u (svN u) hs ht hu rfl rfl
  have he : eqS (svP u) (svN u) := eqS_node rfl rfl (svQ_map u)
  rw [eqS_at he, g4]
  unfold atS
  rw [hu]
  simp only [Option.getD_some]
  rw [g1]; rfl
end Go.Proofs.Ytcdiogifgemjbaa
