/- Texts of this seat, 3 in one file. -/
import Derived.Test.YtbbjnimadnbmnaaGreatG40
/- A tree from which a leaf goes: the document's. -/
namespace Go.Proofs.YtbbjnimadnbmnaaGreat
open Go.RowKit

theorem gr_node {w0 w wr : World} {k : Int} {r : R} {id : Int} {a : Option Addr} {cap : Nat} {cs : List C} {l : List T} {t' : T} (he : t' = .node k r id l) (hb : Below w.heap.size w wr) (h : Grove (Eld w0) wr (w.heap.size + 2) (.slice a cs.length cap) cs l) (hk : 0 ≤ k ∧ k ≤ 255) (hr : r.fits) (hi : fits id) (hl : l.length ≤ 990) :
    GrSays (Eld w0) t' w (.returned (cval ⟨k, r, id, a, cs.length, cap⟩)) (endW w wr ⟨k, r, id, a, cs.length, cap⟩) := gr_end he hb h hk hr hi (by omega)

set_option maxHeartbeats 2000000 in
set_option maxRecDepth 100000 in
theorem rwithout_any (w0 : World) (id : Int) (N : Nat) : ∀ (t : T) (c : C) (w : World), sz t ≤ N → sz t ≤ 990 → tileB t = true → Is w0 c t → Below w0.heap.size w0 w → Calls Tryz.prog 18 #[cval c, .int .i64 id] w (GrSays (Eld w0) (woT id t) w) := by
  induction N with
  | zero => intro t c w h; have := sz_pos t; omega
  | succ N ih =>
    intro t c w hs hm ht hi hb0
    by_cases hp : 0 ≤ plN id t.kids 0
    · exact rwithout_out w0 id t c w hm ht hi hb0 hp
    have hpm : plN id t.kids 0 = -1 := by have := plN_in (id := id) (l := t.kids) (m := 0); omega
    have L1 := Lib.hid (ASt.start w c)
    have HB0 := Lib.hid hb0
    have HPL := Lib.hid (rplace_any id t c (cellW w c) (L1.out.is (hi.up hb0)))
    rw [hpm] at HPL
    have HE := Lib.hid (show woT id t = .node t.k t.r t.id (woL id t.kids) by rw [woT_eq, if_pos (by omega)])
    have hfn : t.kids.length ≤ 990 := by have := sz_node t; have := szL_len t.kids; omega
    have HTK : Hid (∀ (j : Nat) (u : T), t.kids[j]? = some u → tileB u = true) := Lib.hid fun j u hj => tile_kid (by omega) ht hj
    have HSP := Lib.hid hi.split
    have HFINE := Lib.hid hi.fine
    have HR := Lib.hid hi.row
    have hn := hi.n
    obtain ⟨ck, cr, cid, ca, cn, ccap⟩ := c
    simp only at hn
    subst hn
    have HEK : Hid (woT id t = .node ck cr cid (woL id t.kids)) := Lib.hid (by
      obtain ⟨e1, e2, e3, -⟩ := HSP.out
      simp only at e1 e2 e3
      rw [HE.out, e1, e2, e3])
    have HS := Lib.hid hs
    have HM := Lib.hid hm
    have HIH := Lib.hid ih
    clear hi hb0 ht hp hpm HE hs hm ih
    have SW : Hid ((cellW w ⟨ck, cr, cid, ca, t.kids.length, ccap⟩).heap.size = w.heap.size + 2) := Lib.hid (cellW_size w _)
    obtain ⟨c0, c1, c2, c3, c4, c5, c6⟩ := c7_of L1.out.box.cat
    go_enter Tryz.func18, Tryz.ntmps18
    go_wp2_with fail
    refine HPL.out.mono ?_
    rintro e w2 ⟨rfl, hb2⟩
    have L2 := Lib.hid (L1.out.up hb2)
    have HB2 := Lib.hid hb2.size
    have A9 : Below w2.heap.size w2 (w2.alloc (.cells #[] 26)) := (Below.refl _ _).alloc (Nat.le_refl _) _
    clear hb2 c0 c1 c2 c3 c4 c5 c6 HPL
    obtain ⟨c0, c1, c2, c3, c4, c5, c6⟩ := c7_of (L2.out.up A9).box.cat
    go_wp2
    go_loopg [6, 22] (t.kids.length + 1) (fun gg v i wr => ∃ (k : Nat) (cs : List C), gg + k = t.kids.length + 1 ∧ k ≤ t.kids.length ∧ i = .int .i64 k ∧ Grove (Eld w0) wr w2.heap.size v cs (woL id (t.kids.take k)) ∧ Below w2.heap.size w2 wr)
    case atStart => exact ⟨0, [], by omega, by omega, rfl, by simpa [woL] using Grove.empty (Eld w0) w2 _ (Nat.le_refl _), (Below.refl _ _).alloc (Nat.le_refl _) _⟩
    case round =>
      clear c0 c1 c2 c3 c4 c5 c6 A9
      obtain ⟨k, cs, hg, hk, rfl, hgr, hb⟩ := hrel
      have HG := Lib.hid hg
      have HGR := Lib.hid hgr
      have HB := Lib.hid hb
      have LW := Lib.hid (L2.out.up hb)
      clear hg hgr hb
      have HB0W := Lib.hid (HB0.out.trans (LW.out.below.mono HB0.out.size))
      by_cases hlt : k < t.kids.length
      · have hlti : (k : Int) < (t.kids.length : Int) := by omega
        obtain ⟨b, o, rfl, hf⟩ := HR.out.place (by omega)
        obtain ⟨u, hu⟩ : ∃ u, t.kids[k]? = some u := ⟨_, List.getElem?_eq_getElem hlt⟩
        obtain ⟨z, hz, hiz⟩ := hf k u hu
        clear hf
        obtain ⟨q0, q1, q2, q3, q4, q5, q6⟩ := hz.up HB0W.out
        obtain ⟨c0, c1, c2, c3, c4, c5, c6⟩ := c7_of LW.out.box.cat
        have HK := Lib.hid (HIH.out u z wr (by have := HS.out; have := sz_kid hu; omega) (by have := HM.out; have := sz_kid hu; omega) (HTK.out k u hu) hiz HB0W.out)
        have HST := Lib.hid (woL_step (id := id) hu)
        have HLC := Lib.hid (show cs.length ≤ 990 by
          have h1 := HGR.out.len
          have h2 := woL_len id (t.kids.take k)
          rw [List.length_take] at h2
          omega)
        clear hiz hz hu
        go_wp2_with fail
        refine HK.out.mono ?_
        rintro e w3 ⟨d, rfl, hst, hb2⟩
        have HD := Lib.hid hst
        have HB12 := Lib.hid hb2
        have HBX := Lib.hid (HB.out.trans (HB12.out.mono HB.out.size))
        clear hst hb2 q0 q1 q2 q3 q4 q5 q6 c0 c1 c2 c3 c4 c5 c6
        go_wp2_with (at_builtin; refine wpList_append_cells rfl _ _ rfl w2.heap.size u6 _ cs [d] rfl (HGR.out.row.up (HB12.out.trans (((Below.refl w3.heap.size w3).alloc (Nat.le_refl _) (cbox d)).mono HB12.out.size))) rfl (OwnC.one w3 0 (Nat.zero_le _) d).row (by simp) (by have := HLC.out; simp only [List.length_cons, List.length_nil]; omega) w2 (HBX.out.alloc HBX.out.size _) (Nat.le_refl _) ?_; intro g4 cap4 w4 hown4 hb4 hgr4 hpl4)
        have HF4 := Lib.hid (HGR.out.one HB12.out ((Below.refl _ _).alloc (Nat.le_refl _) (cbox d)) HB.out.size HD.out hown4 hgr4 hpl4)
        have HB4 := Lib.hid hb4
        clear hown4 hb4 hgr4 hpl4
        go_wp2
        go_roundg (gk - 1)
        case measure => have := HG.out; omega
        case rel =>
          refine ⟨k + 1, cs ++ [d], by have := HG.out; omega, by omega, by go_num, ?_, HB4.out⟩
          rw [HST.out]
          simpa using HF4.out
      · obtain rfl : k = t.kids.length := by omega
        have hkl : ((t.kids.length : Int) < (t.kids.length : Int)) = False := by simp
        have HFA : Hid (Grove (Eld w0) wr (w.heap.size + 2) u6 cs (woL id t.kids)) := Lib.hid (by have := HGR.out; rw [List.take_length] at this; exact this.lower (by have := HB2.out; have := SW.out; omega))
        have HLW := Lib.hid (woL_len id t.kids)
        clear HGR
        obtain ⟨a', cap', rfl⟩ := HFA.out.row.row.shape
        obtain ⟨c0, c1, c2, c3, c4, c5, c6⟩ := LW.out.box.cat
        simp only [Nat.zero_add] at c1 c2 c3 c4 c5 c6
        have g6 := LW.out.box.free 6
        obtain ⟨⟨z0, z1, z2, z3, z4, z5, z6⟩, f0, f1, f2, f3, f4, f5, f6⟩ := zero_parts LW.out.zero
        go_wp2
        (try simp only [Exit.inBlock, Exit.then])
        have hset : (wr.setCell ⟨w.heap.size, 6, none⟩ (.slice a' cs.length cap')).heap[w.heap.size + 1]? = wr.heap[w.heap.size + 1]? := Below.heap_setCell wr ⟨w.heap.size, 6, none⟩ _ _ (by simp)
        have hz2 : Box7 (wr.setCell ⟨w.heap.size, 6, none⟩ (.slice a' cs.length cap')) (w.heap.size + 1) ⟨0, ⟨0, 0, 0, 0⟩, 0, none, 0, 0⟩ := hset.trans LW.out.zero
        refine bodyPost_ret (results_cell1 rfl _ _ (w.heap.size + 1) ⟨ck, cr, cid, a', cs.length, cap'⟩ rfl (hz2.put ⟨ck, cr, cid, a', cs.length, cap'⟩)) rfl ?_
        exact gr_node HEK.out LW.out.below HFA.out HFINE.out.1 HFINE.out.2.1 HFINE.out.2.2.1 (by rw [HLW.out]; exact hfn)
end Go.Proofs.YtbbjnimadnbmnaaGreat
/- A leaf is killed: the document's answer. -/
namespace Go.Proofs.YtbbjnimadnbmnaaGreat
open Go.RowKit

/-- What the document answers: the error's number, the tree. -/
noncomputable def klE (id : Int) (t : T) : Int := if tileB t = true then (if (lfF id t).isSome = true then (if t.k = 1 then 10 else 0) else 6) else 1
noncomputable def klT (id : Int) (t : T) : T := setT t.r.x t.r.y (woT id t)
def KlSays (id : Int) (t : T) (kind : IntKind) (w : World) (e : Ending) (w' : World) : Prop :=
  ∃ d, e = .returned (.tuple #[cval d, .int kind (klE id t)]) ∧ Stands (fun _ => True) w' w.heap.size w'.heap.size d (if klE id t = 0 then klT id t else noT) ∧ Below w.heap.size w w'
theorem kl_err {id : Int} {t : T} {kind : IntKind} {w w' : World} {n : Int} (hn : klE id t = n) (h0 : n ≠ 0) (hb : Below w.heap.size w w') : KlSays id t kind w (.returned (.tuple #[cval noC, .int kind n])) w' := by
  subst hn
  exact ⟨noC, rfl, fun W' _ _ => by rw [if_neg h0]; exact no_is W', hb⟩
theorem kl_ok {id : Int} {t : T} {kind : IntKind} {w w' : World} {d : C} (hn : klE id t = 0) (hi : Stands (fun _ => True) w' w.heap.size w'.heap.size d (klT id t)) (hb : Below w.heap.size w w') : KlSays id t kind w (.returned (.tuple #[cval d, .int kind 0])) w' :=
  ⟨d, by rw [hn], by rw [if_pos hn]; exact hi, hb⟩
theorem stands_put3 {w W W0 : World} {c d : C} {base : Nat} {t : T} {S : List Nat} (h : LSt w c W) (ho : OwnT W base d t S) (hb : base = W0.heap.size) (hlt : w.heap.size + 1 < W0.heap.size) :
    Stands (fun _ => True) (put7 W (w.heap.size + 1) d) w.heap.size (put7 W (w.heap.size + 1) d).heap.size d t := by
  rw [size_put7]
  refine (ho.stands.move (w2 := put7 W (w.heap.size + 1) d) fun k hk _ => heap_put7 (by omega)).wide (by omega) (Nat.le_refl _)

set_option maxHeartbeats 4000000 in
set_option maxRecDepth 100000 in
theorem rkill_any (id : Int) (t : T) (c : C) (w : World) (hm : sz t ≤ 990) (hi : Is w c t) : Calls Tryz.prog 8 #[cval c, .int .i64 id] w (KlSays id t .i64 w) := by
  have L0 := Lib.hid (LSt.start w c)
  have HT := Lib.hid (rtiles8_any t c (startW w c) (L0.out.is hi) (by omega))
  have HI := Lib.hid hi
  have HM := Lib.hid hm
  clear hi hm
  obtain ⟨c0, c1, c2, c3, c4, c5, c6⟩ := c7_of L0.out.box.cat
  cases htt : tileB t with
  | false =>
    rw [htt] at HT
    have HE : Hid (klE id t = 1) := Lib.hid (if_neg (by rw [htt]; decide))
    clear htt
    go_enter Tryz.func8, Tryz.ntmps8
    go_wp2_with fail
    refine HT.out.mono ?_
    rintro e w1 ⟨rfl, hb1⟩
    have L1 := Lib.hid (L0.out.up hb1)
    clear hb1
    obtain ⟨n0, n1, n2, n3, n4, n5, n6⟩ := c7_of L1.out.none.cat
    obtain ⟨⟨z0, z1, z2, z3, z4, z5, z6⟩, f0, f1, f2, f3, f4, f5, f6⟩ := zero_parts L1.out.zero
    go_wp2
    (try simp only [Exit.inBlock, Exit.then])
    refine bodyPost_ret (results_c2 rfl _ _ (w.heap.size + 1) noC rfl ((Box7.of_zero L1.out.zero).put noC)) rfl ?_
    exact kl_err HE.out (by decide) (below_put7 L1.out.below (by omega) noC)
  | true =>
    rw [htt] at HT
    have HTT := Lib.hid htt
    have HE : Hid (klE id t = if (lfF id t).isSome = true then (if t.k = 1 then 10 else 0) else 6) := Lib.hid (if_pos htt)
    clear htt
    go_enter Tryz.func8, Tryz.ntmps8
    go_wp2_with fail
    refine HT.out.mono ?_
    rintro e w1 ⟨rfl, hb1⟩
    have L1 := Lib.hid (L0.out.up hb1)
    clear hb1 c0 c1 c2 c3 c4 c5 c6 HT
    have HFI := Lib.hid (rfindL_any id t c w1 (by have := HM.out; omega) (L1.out.is HI.out))
    obtain ⟨c0, c1, c2, c3, c4, c5, c6⟩ := c7_of L1.out.box.cat
    go_wp2_with fail
    refine HFI.out.mono ?_
    rintro e w4 ⟨lc, rfl, hlc, hb4⟩
    have L4 := Lib.hid (L1.out.up hb4)
    clear hb4 c0 c1 c2 c3 c4 c5 c6 HFI hlc
    have L5 : Hid (LSt w c (w4.alloc (cbox lc))) := Lib.hid (L4.out.up ((Below.refl _ _).alloc (Nat.le_refl _) _))
    cases hl : (lfF id t).isSome with
    | false =>
      have HE6 := Lib.hid (HE.out.trans (if_neg (by rw [hl]; decide)))
      obtain ⟨n0, n1, n2, n3, n4, n5, n6⟩ := c7_of L5.out.none.cat
      obtain ⟨⟨z0, z1, z2, z3, z4, z5, z6⟩, f0, f1, f2, f3, f4, f5, f6⟩ := zero_parts L5.out.zero
      clear hl
      go_wp2
      (try simp only [Exit.inBlock, Exit.then])
      refine bodyPost_ret (results_c2 rfl _ _ (w.heap.size + 1) noC rfl ((Box7.of_zero L5.out.zero).put noC)) rfl ?_
      exact kl_err HE6.out (by decide) (below_put7 L5.out.below (by omega) noC)
    | true =>
      have HE6 := Lib.hid (HE.out.trans (if_pos hl))
      have hkk := HI.out.split.1
      obtain ⟨c0, c1, c2, c3, c4, c5, c6⟩ := c7_of L5.out.box.cat
      clear hl
      by_cases hk1 : c.k = 1
      · have d1 : (c.k == 1) = true := by simpa using hk1
        have HE7 := Lib.hid (HE6.out.trans (if_pos (hkk.trans hk1)))
        obtain ⟨n0, n1, n2, n3, n4, n5, n6⟩ := c7_of L5.out.none.cat
        obtain ⟨⟨z0, z1, z2, z3, z4, z5, z6⟩, f0, f1, f2, f3, f4, f5, f6⟩ := zero_parts L5.out.zero
        clear hk1 hkk
        go_wp2
        (try simp only [Exit.inBlock, Exit.then])
        refine bodyPost_ret (results_c2 rfl _ _ (w.heap.size + 1) noC rfl ((Box7.of_zero L5.out.zero).put noC)) rfl ?_
        exact kl_err HE7.out (by decide) (below_put7 L5.out.below (by omega) noC)
      · have d1 : (c.k == 1) = false := by simpa using hk1
        have HE7 := Lib.hid (HE6.out.trans (if_neg (by rw [hkk]; exact hk1)))
        clear hk1 hkk
        have D0 : Hid (LSt w c (w4.alloc (cbox lc)).drew) := Lib.hid (L5.out.up (Below.refl _ _).drew)
        have X0 := Lib.hid (c7_of D0.out.box.cat)
        have HWO := Lib.hid (rwithout_any w id (sz t) t c (w4.alloc (cbox lc)).drew (Nat.le_refl _) HM.out HTT.out HI.out D0.out.below)
        have HCF := Lib.hid HI.out.fine.2.1
        have HSET := Lib.hid (fun (t' : T) (d : C) (W : World) (h : Is W d t') => rset_any (sz t') t' d c.r.x c.r.y W (Nat.le_refl _) HCF.out.1 HCF.out.2.1 h)
        have HKT : Hid (klT id t = setT c.r.x c.r.y (woT id t)) := Lib.hid (by unfold klT; rw [HI.out.split.2.1])
        generalize woT id t = t' at HWO HKT
        go_wp2_with fail
        clear c0 c1 c2 c3 c4 c5 c6
        go_region_held3 (fun W => W.cell? ⟨w.heap.size, 0, none⟩ = some (.int .u8 c.k) ∧ W.cell? ⟨w.heap.size, 1, none⟩ = some (.int .i64 c.r.x) ∧ W.cell? ⟨w.heap.size, 2, none⟩ = some (.int .i64 c.r.y) ∧ W.cell? ⟨w.heap.size, 3, none⟩ = some (.int .i64 c.r.w) ∧ W.cell? ⟨w.heap.size, 4, none⟩ = some (.int .i64 c.r.h) ∧ W.cell? ⟨w.heap.size, 5, none⟩ = some (.int .i64 c.id) ∧ W.cell? ⟨w.heap.size, 6, none⟩ = some (.slice c.a c.n c.cap)) (first | with_reducible exact X0.out | with_reducible exact X5.out | with_reducible exact X6.out | with_reducible exact X7.out)
          (first
            | (go_at_call 18; (with_reducible refine HWO.out.mono ?_); rintro e w5 ⟨d5, rfl, hst5, hb5⟩; have D5 := Lib.hid (D0.out.up hb5); have X5 := Lib.hid (c7_of D5.out.box.cat); have I5 := Lib.hid (hst5.is (Eld.of D5.out.below)); clear hst5 hb5)
            | (go_at_call 17; (with_reducible refine (HSET.out t' d5 w5 I5.out).mono ?_); rintro e w6 ⟨d6, S6, rfl, hown6, -, hb6⟩; have D6 := Lib.hid (D5.out.up hb6); have X6 := Lib.hid (c7_of D6.out.box.cat); have O6 := Lib.hid hown6; have X7 := Lib.hid (c7_put7 (k := w.heap.size + 1) (x := d6) X6.out (by omega)); obtain ⟨⟨z0, z1, z2, z3, z4, z5, z6⟩, f0, f1, f2, f3, f4, f5, f6⟩ := zero_parts D6.out.zero; clear hown6 hb6))
        go_wp2
        (try simp only [Exit.inBlock, Exit.then])
        refine bodyPost_ret (results_c2 rfl _ _ (w.heap.size + 1) d6 rfl ((Box7.of_zero D6.out.zero).put d6)) rfl ?_
        exact kl_ok HE7.out (by rw [HKT.out]; exact stands_put3 D6.out O6.out rfl (lt_of_block D5.out.zero)) (below_put7 D6.out.below (by omega) d6)
end Go.Proofs.YtbbjnimadnbmnaaGreat
/- The leaf beside one that goes: the document's answer. -/
namespace Go.Proofs.YtbbjnimadnbmnaaGreat
open Go.RowKit

noncomputable def hrO (id : Int) (t : T) : Option Int := if klE id t = 0 then bsT id t else none
theorem kl_tile {id : Int} {t : T} (h : klE id t = 0) : tileB t = true := by
  cases hb : tileB t with
  | true => rfl
  | false => unfold klE at h; rw [if_neg (by rw [hb]; decide)] at h; cases h
theorem kl_bound (id : Int) (t : T) : 0 ≤ klE id t ∧ klE id t ≤ 10 := by
  unfold klE
  split
  · split
    · split <;> omega
    · omega
  · omega

set_option maxHeartbeats 2000000 in
set_option maxRecDepth 100000 in
theorem rheirL_any (id : Int) (t : T) (c : C) (w : World) (hm : sz t ≤ 990) (hi : Is w c t) : Calls Tryz.prog 10 #[cval c, .int .i64 id] w (BsSays (hrO id t) w) := by
  have B1 : Hid (Below w.heap.size w (w.alloc (cbox c))) := Lib.hid ((Below.refl _ _).alloc (Nat.le_refl _) _)
  have BX : Hid (Box7 (w.alloc (cbox c)) w.heap.size c) := Lib.hid (Box7.new w c)
  have HKL := Lib.hid (rkill_any id t c (w.alloc (cbox c)) hm (hi.up B1.out))
  have HI := Lib.hid hi
  have HM := Lib.hid hm
  have HKB := kl_bound id t
  have HKT := Lib.hid (fun h => kl_tile (id := id) (t := t) h)
  have HO : Hid (hrO id t = if klE id t = 0 then bsT id t else none) := Lib.hid rfl
  clear hi hm
  unfold KlSays at HKL
  generalize klE id t = er at HKL HKB HKT HO
  go_enter Tryz.func10, Tryz.ntmps10
  go_wp2_with fail
  refine HKL.out.mono ?_
  rintro e w2 ⟨d, rfl, -, hb2⟩
  have B2 := Lib.hid (B1.out.trans (hb2.mono B1.out.size))
  have BX2 := Lib.hid (BX.out.up hb2)
  have A9 : Below w2.heap.size w2 (w2.alloc (cbox d)) := (Below.refl _ _).alloc (Nat.le_refl _) _
  have B3 := Lib.hid (B2.out.trans (A9.mono B2.out.size))
  have BX3 := Lib.hid (BX2.out.up A9)
  clear hb2 HKL A9
  by_cases h0 : er = 0
  · subst h0
    have HP := Lib.hid (HO.out.trans (if_pos rfl))
    have HBS := Lib.hid (rbeside_any id (sz t) t c (w2.alloc (cbox d)) (Nat.le_refl _) HM.out (HKT.out rfl) (HI.out.up B3.out))
    obtain ⟨c0, c1, c2, c3, c4, c5, c6⟩ := c7_of BX3.out.cat
    go_wp2_with fail
    refine HBS.out.mono ?_
    rintro e w4 ⟨rfl, hb4⟩
    have B4 := Lib.hid (B3.out.trans (hb4.mono B3.out.size))
    clear hb4
    go_wp2
    go_ret2
    exact ⟨by rw [HP.out]; rfl, B4.out⟩
  · have d1 : (er != 0) = true := bne_iff_ne.2 h0
    have HP := Lib.hid (HO.out.trans (if_neg h0))
    clear h0
    go_wp2
    go_ret2
    exact bs_no HP.out B3.out
end Go.Proofs.YtbbjnimadnbmnaaGreat
