/- Texts of this seat, 2 in one file. -/
import Derived.Test.YtakofjbjciljjaaG27
import Derived.Test.YtakofjbjciljjaaG28
import Derived.Test.YtakofjbjciljjaaG26
import Derived.Deep.RegionHeld3
/- The program's Beside: a leaf changes places with one so many places behind it. -/
namespace Go.Proofs.Ytakofjbjciljjaa
open Go.RowKit

theorem next_is {t : T} {id by_ : Int} (h : id ∈ idsT t) : (nextP (panesT t) id by_).2 = true := by
  cases hix : idxP (panesT t) id with
  | none =>
    exfalso
    rw [← ids_panes] at h
    obtain ⟨p, hp, he⟩ := List.mem_map.1 h
    exact idx_gone hix p hp he
  | some i =>
    obtain ⟨p, hp, he, -⟩ := idx_at hix
    have hi := (List.getElem?_eq_some_iff.1 hp).1
    obtain ⟨j, hj, hjl⟩ := round_at (show 0 < (panesT t).length by omega) ((i : Int) + by_)
    rw [nextP_some hix hj (List.getElem?_eq_getElem hjl)]
theorem lv_one (t : T) (id by_ : Int) : lvE t [id] = bsE t id by_ := by
  unfold lvE bsE outB
  by_cases ht : tileB t = true
  · rw [if_pos ht, if_pos ht]
    by_cases hd : id ∈ idsT t
    · rw [if_pos (next_is hd)]; simp [hd]
    · have : ¬ (nextP (panesT t) id by_).2 = true := fun h => hd (next_there h).1
      rw [if_neg this]; simp [hd]
  · rw [if_neg ht, if_neg ht]
theorem bs_zero {t : T} {id by_ : Int} (h : bsE t id by_ = 0) : tileB t = true ∧ (nextP (panesT t) id by_).2 = true := by
  unfold bsE at h
  split at h
  · rename_i ht
    split at h
    · rename_i h2
      exact ⟨ht, h2⟩
    · omega
  · omega

set_option maxHeartbeats 4000000 in
set_option maxRecDepth 100000 in
theorem pbeside_any : BesideK := by
  intro t c id by_ w hm hi hfi hfb
  have L0 := Lib.hid (SSt.start w c)
  have HI := Lib.hid hi
  have HM := Lib.hid hm
  have HFI := Lib.hid hfi
  clear hi hm hfi hfb
  have A1 : Hid (Below (freshW w c).heap.size (freshW w c) ((freshW w c).alloc (.cells #[.int .i64 id] 3))) := Lib.hid ((Below.refl _ _).alloc (Nat.le_refl _) _)
  have L1 := Lib.hid (L0.out.up A1.out)
  have HLV := Lib.hid (sleaves_any t c _ [id] ((freshW w c).alloc (.cells #[.int .i64 id] 3)) (by have := HM.out; omega) (L1.out.is HI.out) (row_one (freshW w c) (.int .i64 id) 3) (by simp))
  rw [lv_one t id by_] at HLV
  obtain ⟨c0, c1, c2, c3, c4, c5, c6⟩ := c7_of L0.out.box.cat
  go_enter Try.func14, Try.ntmps14
  go_upto_region 1 with fail
  change Code.wp _ _ _ _ (freshW w c)
  generalize freshW w c = W0 at L0 A1 L1 HLV c0 c1 c2 c3 c4 c5 c6 ⊢
  go_wp2_with fail
  refine HLV.out.mono ?_
  rintro e w2 ⟨a2, k2, cap2, rfl, -, hb2⟩
  have L2 := Lib.hid (L1.out.up hb2)
  clear hb2 HLV c0 c1 c2 c3 c4 c5 c6 L0 A1 L1
  have hzero : bsE t id by_ = 0 ∨ bsE t id by_ ≠ 0 := Classical.em _
  rcases hzero with h0 | h0
  · have HE := Lib.hid h0
    obtain ⟨ht, hn2⟩ := bs_zero h0
    obtain ⟨hin, hot⟩ := next_there hn2
    have HTW : Hid (twE t id (nextP (panesT t) id by_).1 = 0) := Lib.hid (tw_yes ht ⟨hin, hot⟩)
    have HFO : Hid (fits (nextP (panesT t) id by_).1) := Lib.hid (HI.out.ids _ hot)
    have HNX := Lib.hid (next_any t c id by_ w2 (by have := HM.out; omega) (L2.out.is HI.out))
    rw [h0]
    clear h0 ht hn2 hin hot
    obtain ⟨c0, c1, c2, c3, c4, c5, c6⟩ := c7_of L2.out.box.cat
    go_wp2_with fail
    refine HNX.out.mono ?_
    rintro e w3 ⟨rfl, hb3⟩
    have L3 := Lib.hid (L2.out.up hb3)
    have HT := Lib.hid (ptwo_any t c id (nextP (panesT t) id by_).1 w3 HM.out (L3.out.is HI.out) HFI.out HFO.out)
    rw [HTW.out] at HT
    clear hb3 HNX c0 c1 c2 c3 c4 c5 c6
    obtain ⟨o, ho⟩ : ∃ o, o = (nextP (panesT t) id by_).1 := ⟨_, rfl⟩
    rw [← ho] at HT ⊢
    have HOO := Lib.hid ho
    clear ho HTW HFO
    obtain ⟨c0, c1, c2, c3, c4, c5, c6⟩ := c7_of L3.out.box.cat
    go_wp2_with fail
    refine HT.out.mono ?_
    rintro e w4 ⟨d, rfl, hd, hb4⟩
    have F4 : Hid (Fas w3.heap.size w4 d (twT t id o)) := Lib.hid hd
    have L4 := Lib.hid (L3.out.up hb4)
    clear hd hb4 HT c0 c1 c2 c3 c4 c5 c6
    obtain ⟨⟨z0, z1, z2, z3, z4, z5, z6⟩, f0, f1, f2, f3, f4, f5, f6⟩ := zero_parts L4.out.zero
    go_wp2
    (try simp only [Exit.inBlock, Exit.then])
    refine bodyPost_ret (results_c2 rfl _ _ (w.heap.size + 1) d rfl ((Box7.of_zero L4.out.zero).put d)) rfl ?_
    rw [HE.out, ← HOO.out]
    exact sw_ok rfl ((F4.out.put (b := w.heap.size + 1) (by have := L3.out.size; omega)).low (by omega)) (below_put7 L4.out.below (by omega) d)
  · have HE := Lib.hid h0
    clear h0
    obtain ⟨n, hn⟩ : ∃ n, n = bsE t id by_ := ⟨_, rfl⟩
    rw [← hn] at HE ⊢
    have HNN := Lib.hid hn
    clear hn
    have d1 : (n != 0) = true := by simpa using HE.out
    obtain ⟨⟨z0, z1, z2, z3, z4, z5, z6⟩, f0, f1, f2, f3, f4, f5, f6⟩ := zero_parts L2.out.zero
    go_wp2
    (try simp only [Exit.inBlock, Exit.then])
    refine bodyPost_ret (results_c2 rfl _ _ (w.heap.size + 1) zC rfl ((Box7.of_zero L2.out.zero).put zC)) rfl ?_
    rw [← HNN.out]
    exact sw_err HE.out L2.out.err
end Go.Proofs.Ytakofjbjciljjaa
/- The law SwapKeeps. -/
namespace Go.Proofs.Ytakofjbjciljjaa
open Go.RowKit

mutual
theorem nm_lf : ∀ (t : T) (ms : List Int), ((preT (nmT ms t)).filter leafB).map T.r = ((preT t).filter leafB).map T.r
  | .node k r i l, ms => by
    have ihl := nmL_lf l (ms.drop (if k = 1 then 1 else 0))
    rw [preT_eq, preT_eq (.node k r i l), nmT_eq]
    have e1 : leafB (.node k r (if k = 1 then ms.headD 0 else i) (nmL (ms.drop (if k = 1 then 1 else 0)) l)) = leafB (.node k r i l) := rfl
    change List.map T.r (List.filter leafB (.node k r (if k = 1 then ms.headD 0 else i) (nmL (ms.drop (if k = 1 then 1 else 0)) l) :: preL (nmL (ms.drop (if k = 1 then 1 else 0)) l))) = List.map T.r (List.filter leafB (.node k r i l :: preL l))
    cases h : leafB (.node k r i l) with
    | true => rw [List.filter_cons_of_pos (by rw [e1]; exact h), List.filter_cons_of_pos h, List.map_cons, List.map_cons, ihl]; rfl
    | false => rw [List.filter_cons_of_neg (by rw [e1, h]; decide), List.filter_cons_of_neg (by rw [h]; decide), ihl]
theorem nmL_lf : ∀ (l : List T) (ms : List Int), ((preL (nmL ms l)).filter leafB).map T.r = ((preL l).filter leafB).map T.r
  | [], ms => by simp [nmL, preL]
  | t :: l, ms => by
    rw [nmL, preL, preL, List.filter_append, List.filter_append, List.map_append, List.map_append, nm_lf t ms, nmL_lf l _]
end
theorem panes_r (t : T) : (panesT t).map Pn.r = ((preT t).filter leafB).map T.r := by
  unfold panesT; rw [List.map_map]; rfl
/-- All rectangles stay, all numbers are there. -/
structure Kp (t u : T) : Prop where
  rects : (panesT u).map Pn.r = (panesT t).map Pn.r
  tile : tileB u = true
  ids : ∀ m ∈ idsT t, m ∈ idsT u
  size : sz u = sz t
theorem Kp.refl {t : T} (h : tileB t = true) : Kp t t := ⟨rfl, h, fun _ h => h, rfl⟩
theorem Kp.trans {t u z : T} (h : Kp t u) (g : Kp u z) : Kp t z := ⟨g.rects.trans h.rects, g.tile, fun m hm => g.ids m (h.ids m hm), g.size.trans h.size⟩
theorem kp_two {t : T} {a b : Int} (hs : sz t ≤ 20000) (h : twE t a b = 0) : Kp t (twT t a b) := by
  obtain ⟨ht, ha, hb⟩ := tw_tile hs h
  refine ⟨by rw [panes_r, panes_r]; exact nm_lf _ _, tw_tiles hs ht ha hb, fun m hm => ?_, tw_sz t a b⟩
  rw [tw_ids]
  have h1 : tw1 a b m ∈ idsT t := by
    unfold tw1
    split
    · exact hb
    · split
      · exact ha
      · exact hm
  have h2 := twL_has (a := a) (b := b) h1
  rw [tw1_tw1] at h2
  exact h2
theorem kp_round {t : T} (by_ : Int) (hs : sz t ≤ 20000) (ht : tileB t = true) : Kp t (rdT t by_) :=
  ⟨by rw [panes_r, panes_r]; exact nm_lf _ _, rd_tiles hs ht, fun m hm => by rw [rd_ids]; exact rdL_has hm, rd_sz t by_⟩
theorem Kp.len {t u : T} (h : Kp t u) : (panesT u).length = (panesT t).length := by
  have := congrArg List.length h.rects
  rw [List.length_map, List.length_map] at this
  exact this
theorem Kp.at {t u : T} (h : Kp t u) {k : Nat} {p q : Pn} (hp : (panesT t)[k]? = some p) (hq : (panesT u)[k]? = some q) : p.r = q.r ∧ p.id ∈ idsT u := by
  have h1 := congrArg (fun l => l[k]?) h.rects
  simp only [List.getElem?_map, hp, hq, Option.map_some] at h1
  refine ⟨(Option.some.inj h1).symm, h.ids _ ?_⟩
  rw [← ids_panes]
  exact List.mem_map.2 ⟨p, List.mem_of_getElem? hp, rfl⟩

set_option maxHeartbeats 4000000 in
set_option maxRecDepth 100000 in
theorem swapKeeps_any (HT : TwoK) (HR : RoundK) (t : T) (c : C) (a b by_ : Int) (w : World) (hi : Is w c t) (hfa : fits a) (hfb : fits b) (hfy : fits by_) (hs : sz t ≤ 1099511627776) : Calls Try.prog 6 #[cval c, .int .i64 a, .int .i64 b, .int .i64 by_] w fun e w' => e = .returned (.bool true) ∧ Below w.heap.size w w' := by
  have S0 := Lib.hid (QSt.new w c)
  have HG := Lib.hid (great_any t c (w.alloc (cbox c)) (hi.up S0.out.below))
  have HI := Lib.hid hi
  have HAW := Lib.hid (awake15_any HR)
  clear hi
  obtain ⟨c0, c1, c2, c3, c4, c5, c6⟩ := S0.out.c7
  go_enter Try.func6, Try.ntmps6
  go_wp2_with fail
  refine HG.out.mono ?_
  rintro e w1 ⟨g, rfl, hg, hb1⟩
  have S1 := Lib.hid (S0.out.up hb1)
  have HGR := Lib.hid hg
  clear hb1 hg c0 c1 c2 c3 c4 c5 c6
  cases g with
  | true =>
    go_wp2_with fail
    refine (HAW.out w1).mono ?_
    rintro e w2 ⟨rfl, hb2⟩
    have S2 := Lib.hid (S1.out.up hb2)
    clear hb2
    go_wp2
    go_ret
    exact ⟨rfl, S2.out.below⟩
  | false =>
    have hsz : sz t ≤ 200 := HGR.out rfl hs
    have HSZ := Lib.hid hsz
    have HTI := Lib.hid (rtiles8_any t c w1 (HI.out.up S1.out.below) (by omega))
    obtain ⟨c0, c1, c2, c3, c4, c5, c6⟩ := S1.out.c7
    go_wp2_with fail
    refine HTI.out.mono ?_
    rintro e w2 ⟨rfl, hb2⟩
    have S2 := Lib.hid (S1.out.up hb2)
    clear hb2 c0 c1 c2 c3 c4 c5 c6 HTI
    cases ht : tileB t with
    | false =>
      clear ht
      go_wp2_with fail
      refine (HAW.out w2).mono ?_
      rintro e w3 ⟨rfl, hb3⟩
      have S3 := Lib.hid (S2.out.up hb3)
      clear hb3
      go_wp2
      go_ret
      exact ⟨rfl, S3.out.below⟩
    | true =>
      have K1 := Lib.hid ((HT t c a b w2 (by omega) (HI.out.up S2.out.below) hfa hfb).mono fun e w' h => sw_all h)
      have HK0 := Lib.hid (Kp.refl ht)
      have HK1 : Hid (twE t a b = 0 → Kp t (twT t a b)) := Lib.hid fun h => kp_two (by omega) h
      have KR : Hid (∀ u, Kp t u → ∃ z, Kp t z ∧ ∀ W d, Is W d u → Calls Try.prog 12 #[cval d, .int .i64 by_] W fun e w' => ∃ y, e = .returned (.tuple #[cval y, .int .i64 0]) ∧ Is w' y z ∧ Below W.heap.size W w') := Lib.hid (by
        intro u hu
        refine ⟨rdT u by_, hu.trans (kp_round by_ (by rw [hu.size]; omega) hu.tile), fun W d hd => ?_⟩
        refine (HR u d by_ W (by rw [hu.size]; omega) hd hfy).mono fun e w' h => ?_
        have h2 := sw_all h
        rw [show rdE u = 0 from if_pos hu.tile] at h2
        exact h2)
      clear hsz hs HGR hfa hfb hfy HT HR ht
      obtain ⟨c0, c1, c2, c3, c4, c5, c6⟩ := S2.out.c7
      go_wp2_with fail
      refine K1.out.mono ?_
      rintro e w3 ⟨d, rfl, hd, hb3⟩
      have S3 := Lib.hid (S2.out.up hb3)
      have D3 := Lib.hid hd
      have al3 : ∀ x : C, Below w3.heap.size w3 (w3.alloc (cbox x)) := fun x => (Below.refl _ _).alloc (Nat.le_refl _) _
      have AL3 := Lib.hid al3
      have N3 : Hid (w.heap.size < w3.heap.size) := Lib.hid S3.out.cat.lt
      clear hb3 hd al3 c0 c1 c2 c3 c4 c5 c6
      have hcase : twE t a b = 0 ∨ twE t a b ≠ 0 := Classical.em _
      rcases hcase with h0 | h0
      · obtain ⟨W4, hW, xc, xu, S4, X4, DX, HKX⟩ : ∃ W4, W4 = w3.alloc (cbox d) ∧ ∃ (x : C) (u : T), Hid (QSt w c W4) ∧ Hid (Box7 W4 w3.heap.size x) ∧ Hid (Is W4 x u) ∧ Hid (Kp t u) :=
          ⟨_, rfl, d, twT t a b, S3.out.up (AL3.out d), Box7.new w3 d, Lib.hid (by have h := D3.out.up (AL3.out d); unfold swT at h; rw [if_pos h0] at h; exact h), Lib.hid (HK1.out h0)⟩
        rw [h0]
        clear D3 HK1 HK0 K1 h0 S3
        go_upto_region 6 with fail
        change Code.wp _ _ _ _ (w3.alloc (cbox d))
        rw [← hW]
        clear hW
        generalize w3.heap.size = xb at X4 N3 ⊢
        obtain ⟨z, HKZ, KZ⟩ := KR.out xu HKX.out
        have K5 := Lib.hid (KZ W4 xc DX.out)
        have HZ := Lib.hid HKZ
        clear KZ HKZ KR
        obtain ⟨c0, c1, c2, c3, c4, c5, c6⟩ := c7_of X4.out.cat
        go_wp2_with fail
        refine K5.out.mono ?_
        rintro e w5 ⟨y, rfl, hy, hb5⟩
        have al5 : Below w5.heap.size w5 (w5.alloc (cbox y)) := (Below.refl _ _).alloc (Nat.le_refl _) _
        have S5 := Lib.hid ((S4.out.up hb5).up al5)
        have Y5 := Lib.hid (Box7.new w5 y)
        have DY := Lib.hid (hy.up al5)
        clear hb5 hy al5 c0 c1 c2 c3 c4 c5 c6 K5 X4 DX HKX S4
        go_upto_region 7 with fail
        change Code.wp _ _ _ _ (w5.alloc (cbox y))
        generalize w5.alloc (cbox y) = W6 at S5 Y5 DY ⊢
        generalize w5.heap.size = yb at Y5 ⊢
        have I6 := Lib.hid (HI.out.up S5.out.below)
        have HZS : Hid (sz z ≤ 200) := Lib.hid (by rw [HZ.out.size]; exact HSZ.out)
        have BD : Hid (Below W6.heap.size W6 W6.drew) := Lib.hid (Below.refl _ W6).drew
        have HL1 := Lib.hid (rlist_any t c W6.drew (by have := HSZ.out; omega) (I6.out.up BD.out))
        have HL2 := Lib.hid (fun W (h : Below W6.heap.size W6 W) => rlist_any z y W (by have := HZS.out; omega) (DY.out.up h))
        have S0' : Hid (CX w.heap.size yb c y W6.drew) := Lib.hid (cx_of (W := W6) S5.out.cat Y5.out.cat)
        go_region_held3 (fun W => (W.cell? ⟨w.heap.size, 0, none⟩ = some (.int .u8 c.k) ∧ W.cell? ⟨w.heap.size, 1, none⟩ = some (.int .i64 c.r.x) ∧ W.cell? ⟨w.heap.size, 2, none⟩ = some (.int .i64 c.r.y) ∧ W.cell? ⟨w.heap.size, 3, none⟩ = some (.int .i64 c.r.w) ∧ W.cell? ⟨w.heap.size, 4, none⟩ = some (.int .i64 c.r.h) ∧ W.cell? ⟨w.heap.size, 5, none⟩ = some (.int .i64 c.id) ∧ W.cell? ⟨w.heap.size, 6, none⟩ = some (.slice c.a c.n c.cap)) ∧ (W.cell? ⟨yb, 0, none⟩ = some (.int .u8 y.k) ∧ W.cell? ⟨yb, 1, none⟩ = some (.int .i64 y.r.x) ∧ W.cell? ⟨yb, 2, none⟩ = some (.int .i64 y.r.y) ∧ W.cell? ⟨yb, 3, none⟩ = some (.int .i64 y.r.w) ∧ W.cell? ⟨yb, 4, none⟩ = some (.int .i64 y.r.h) ∧ W.cell? ⟨yb, 5, none⟩ = some (.int .i64 y.id) ∧ W.cell? ⟨yb, 6, none⟩ = some (.slice y.a y.n y.cap))) (first | with_reducible exact S0'.out | with_reducible exact S7.out | with_reducible exact S8.out)
          (first
            | (go_at_call 17; (with_reducible refine HL1.out.mono ?_); rintro e w7 ⟨v7, rfl, ho7, hb7⟩; have B7 := Lib.hid (BD.out.trans (hb7.mono BD.out.size)); have S7 := Lib.hid (cx_up S0'.out hb7); have R7 := Lib.hid ho7.row; clear ho7 hb7)
            | (go_at_call 17; (with_reducible refine (HL2.out w7 B7.out).mono ?_); rintro e w8 ⟨v8, rfl, ho8, hb8⟩; have B8 := Lib.hid (B7.out.trans (hb8.mono B7.out.size)); have S8 := Lib.hid (cx_up S7.out hb8); have R8 := Lib.hid ho8.row; have R78 := Lib.hid (R7.out.up hb8); clear ho8 hb8))
        have B8' := Lib.hid (S5.out.below.trans (B8.out.mono S5.out.below.size))
        have S9 := Lib.hid (cx_cat S8.out)
        obtain ⟨a7, cap7, rfl⟩ := R78.out.shape
        obtain ⟨a8, cap8, rfl⟩ := R8.out.shape
        have HLEN := Lib.hid HZ.out.len
        have HLN : Hid ((panesT t).length ≤ 200) := Lib.hid (by have := panes_len t; have := HSZ.out; omega)
        have HAT := Lib.hid (fun k p q => HZ.out.at (k := k) (p := p) (q := q))
        have HIL : Hid ((idsT z).length ≤ 1000000) := Lib.hid (by rw [ids_len]; have := lv_sz z; have := HZS.out; omega)
        rw [HLEN.out]
        have d0 : (((panesT t).length : Int) != ((panesT t).length : Int)) = false := by simp
        have HT8 := Lib.hid (rtiles8_any z y w8 (DY.out.up B8.out) (by have := HZS.out; omega))
        rw [HZ.out.tile] at HT8
        obtain ⟨c0, c1, c2, c3, c4, c5, c6⟩ := c7_of S9.out.2
        go_wp2_with fail
        refine HT8.out.mono ?_
        rintro e w9 ⟨rfl, hb9⟩
        have B9 := Lib.hid (B8'.out.trans (hb9.mono B8'.out.size))
        have Y9 := Lib.hid (S9.out.2.up hb9)
        have R7' := Lib.hid (R78.out.up hb9)
        have R8' := Lib.hid (R8.out.up hb9)
        have HID9 := Lib.hid (rids_any z y w9 (by have := HZS.out; omega) ((DY.out.up B8.out).up hb9))
        clear hb9 c0 c1 c2 c3 c4 c5 c6 HT8
        obtain ⟨c0, c1, c2, c3, c4, c5, c6⟩ := c7_of Y9.out
        go_wp2_with fail
        refine HID9.out.mono ?_
        rintro e w10 ⟨v10, rfl, ho10, hb10⟩
        have B10 := Lib.hid (B9.out.trans (hb10.mono B9.out.size))
        have R7 := Lib.hid (R7'.out.up hb10)
        have R8 := Lib.hid (R8'.out.up hb10)
        have R10 := Lib.hid ho10.row
        obtain ⟨a10, cap10, rfl⟩ := row_shape ho10.row
        clear ho10 hb10 c0 c1 c2 c3 c4 c5 c6 HID9 R7' R8'
        generalize panesT t = lt at HLEN HLN HAT R7 R78 d0 ⊢
        generalize panesT z = lz at HLEN HAT R8
        generalize idsT z = ids at HAT HIL R10 ⊢
        clear R78
        go_wp2
        go_loopg [16] (lt.length + 1) (fun g i wr => ∃ k : Nat, g + k = lt.length + 1 ∧ k ≤ lt.length ∧ i = .int .i64 k ∧ Below w10.heap.size w10 wr)
        case atStart => exact ⟨0, by omega, by omega, rfl, Below.refl _ _⟩
        case round =>
          obtain ⟨k, hg, hk, rfl, hbr⟩ := hrel
          have HG' := Lib.hid hg
          have HBR := Lib.hid hbr
          clear hg hbr
          by_cases hlt : k < lt.length
          · obtain ⟨b7, o7, rfl, hf7⟩ := R7.out.place (by omega)
            obtain ⟨b8, o8, rfl, hf8⟩ := R8.out.place (by have := HLEN.out; omega)
            obtain ⟨p, hp⟩ : ∃ p, lt[k]? = some p := ⟨_, List.getElem?_eq_getElem hlt⟩
            obtain ⟨q, hq⟩ : ∃ q, lz[k]? = some q := ⟨_, List.getElem?_eq_getElem (by have := HLEN.out; omega)⟩
            obtain ⟨hr, hm⟩ := HAT.out k p q hp hq
            obtain ⟨e0, e1, e2, e3, e4⟩ := (hf7 k p hp).up HBR.out
            obtain ⟨q0, q1, q2, q3, q4⟩ := (hf8 k q hq).up HBR.out
            have hE : ∀ w, (Op.equalIn 10000 23 (.agg #[.int .i64 p.r.x, .int .i64 p.r.y, .int .i64 p.r.w, .int .i64 p.r.h]) (.agg #[.int .i64 q.r.x, .int .i64 q.r.y, .int .i64 q.r.w, .int .i64 q.r.h])).run Try.prog w = .ok true w := fun w => by rw [← decide_eq_true hr]; exact eq_run p.r q.r w
            have HA := Lib.hid (fun n => rhasI_same _ ids p.id (wr.drewN n) ((R10.out.up HBR.out).up (below_drewN wr n)) HIL.out)
            rw [decide_eq_true hm] at HA
            have hln : lt.length ≤ 200 := HLN.out
            have hlz : lz.length = lt.length := HLEN.out
            have e9 : wrap64 ((k : Int) + 1) = ((k + 1 : Nat) : Int) := by rw [← wrapE, wrap_id (by omega)]; omega
            clear hf7 hf8 hp hq hr hm
            go_wp2
            go_quiet ((go_at_call 19; with_reducible exact quiet_same (HA.out _)))
            have BQ := Lib.hid (HBR.out.trans ((below_drewN wr nq).mono HBR.out.size))
            generalize wr.drewN nq = w11 at BQ ⊢
            go_wp2
            go_roundg (gk - 1)
            case measure => have := HG'.out; omega
            case rel => exact ⟨k + 1, by have := HG'.out; omega, by omega, by first | rfl | exact congrArg _ e9 | (rw [e9]) | (congr 1; omega) | (simp only [IntKind.wrap_i64, e9]), BQ.out⟩
          · obtain rfl : k = lt.length := by omega
            have hkl : ((lt.length : Int) < (lt.length : Int)) = False := by simp
            go_wp2_with fail
            refine (HAW.out wr).mono ?_
            rintro e w11 ⟨rfl, hb11⟩
            have B11 := Lib.hid ((B10.out.trans (HBR.out.mono B10.out.size)).trans (hb11.mono (Nat.le_trans B10.out.size HBR.out.size)))
            clear hb11
            go_wp2
            go_ret
            exact ⟨rfl, B11.out⟩
      · have d1 : (twE t a b != 0) = true := by simpa using h0
        have d2 : (twE t a b == 0) = false := by simpa using h0
        generalize twE t a b = n at d1 d2 h0 ⊢
        have SD := Lib.hid (S3.out.up (AL3.out d))
        have XD := Lib.hid (Box7.new w3 d)
        obtain ⟨c0, c1, c2, c3, c4, c5, c6⟩ := SD.out.c7
        obtain ⟨q0, q1, q2, q3, q4, q5, q6⟩ := c7_of XD.out.cat
        go_upto_region 6 with fail
        change Code.wp _ _ _ _ (w3.alloc (cbox c))
        obtain ⟨W4, hW, xc, xu, S4, X4, DX, HKX⟩ : ∃ W4, W4 = w3.alloc (cbox c) ∧ ∃ (x : C) (u : T), Hid (QSt w c W4) ∧ Hid (Box7 W4 w3.heap.size x) ∧ Hid (Is W4 x u) ∧ Hid (Kp t u) :=
          ⟨_, rfl, c, t, S3.out.up (AL3.out c), Box7.new w3 c, Lib.hid ((HI.out.up S3.out.below).up (AL3.out c)), HK0⟩
        rw [← hW]
        clear hW c0 c1 c2 c3 c4 c5 c6 q0 q1 q2 q3 q4 q5 q6 d1 d2 h0 D3 HK1 HK0 K1 S3 SD XD
        generalize w3.heap.size = xb at X4 N3 ⊢
        obtain ⟨z, HKZ, KZ⟩ := KR.out xu HKX.out
        have K5 := Lib.hid (KZ W4 xc DX.out)
        have HZ := Lib.hid HKZ
        clear KZ HKZ KR
        obtain ⟨c0, c1, c2, c3, c4, c5, c6⟩ := c7_of X4.out.cat
        go_wp2_with fail
        refine K5.out.mono ?_
        rintro e w5 ⟨y, rfl, hy, hb5⟩
        have al5 : Below w5.heap.size w5 (w5.alloc (cbox y)) := (Below.refl _ _).alloc (Nat.le_refl _) _
        have S5 := Lib.hid ((S4.out.up hb5).up al5)
        have Y5 := Lib.hid (Box7.new w5 y)
        have DY := Lib.hid (hy.up al5)
        clear hb5 hy al5 c0 c1 c2 c3 c4 c5 c6 K5 X4 DX HKX S4
        go_upto_region 7 with fail
        change Code.wp _ _ _ _ (w5.alloc (cbox y))
        generalize w5.alloc (cbox y) = W6 at S5 Y5 DY ⊢
        generalize w5.heap.size = yb at Y5 ⊢
        have I6 := Lib.hid (HI.out.up S5.out.below)
        have HZS : Hid (sz z ≤ 200) := Lib.hid (by rw [HZ.out.size]; exact HSZ.out)
        have BD : Hid (Below W6.heap.size W6 W6.drew) := Lib.hid (Below.refl _ W6).drew
        have HL1 := Lib.hid (rlist_any t c W6.drew (by have := HSZ.out; omega) (I6.out.up BD.out))
        have HL2 := Lib.hid (fun W (h : Below W6.heap.size W6 W) => rlist_any z y W (by have := HZS.out; omega) (DY.out.up h))
        have S0' : Hid (CX w.heap.size yb c y W6.drew) := Lib.hid (cx_of (W := W6) S5.out.cat Y5.out.cat)
        go_region_held3 (fun W => (W.cell? ⟨w.heap.size, 0, none⟩ = some (.int .u8 c.k) ∧ W.cell? ⟨w.heap.size, 1, none⟩ = some (.int .i64 c.r.x) ∧ W.cell? ⟨w.heap.size, 2, none⟩ = some (.int .i64 c.r.y) ∧ W.cell? ⟨w.heap.size, 3, none⟩ = some (.int .i64 c.r.w) ∧ W.cell? ⟨w.heap.size, 4, none⟩ = some (.int .i64 c.r.h) ∧ W.cell? ⟨w.heap.size, 5, none⟩ = some (.int .i64 c.id) ∧ W.cell? ⟨w.heap.size, 6, none⟩ = some (.slice c.a c.n c.cap)) ∧ (W.cell? ⟨yb, 0, none⟩ = some (.int .u8 y.k) ∧ W.cell? ⟨yb, 1, none⟩ = some (.int .i64 y.r.x) ∧ W.cell? ⟨yb, 2, none⟩ = some (.int .i64 y.r.y) ∧ W.cell? ⟨yb, 3, none⟩ = some (.int .i64 y.r.w) ∧ W.cell? ⟨yb, 4, none⟩ = some (.int .i64 y.r.h) ∧ W.cell? ⟨yb, 5, none⟩ = some (.int .i64 y.id) ∧ W.cell? ⟨yb, 6, none⟩ = some (.slice y.a y.n y.cap))) (first | with_reducible exact S0'.out | with_reducible exact S7.out | with_reducible exact S8.out)
          (first
            | (go_at_call 17; (with_reducible refine HL1.out.mono ?_); rintro e w7 ⟨v7, rfl, ho7, hb7⟩; have B7 := Lib.hid (BD.out.trans (hb7.mono BD.out.size)); have S7 := Lib.hid (cx_up S0'.out hb7); have R7 := Lib.hid ho7.row; clear ho7 hb7)
            | (go_at_call 17; (with_reducible refine (HL2.out w7 B7.out).mono ?_); rintro e w8 ⟨v8, rfl, ho8, hb8⟩; have B8 := Lib.hid (B7.out.trans (hb8.mono B7.out.size)); have S8 := Lib.hid (cx_up S7.out hb8); have R8 := Lib.hid ho8.row; have R78 := Lib.hid (R7.out.up hb8); clear ho8 hb8))
        have B8' := Lib.hid (S5.out.below.trans (B8.out.mono S5.out.below.size))
        have S9 := Lib.hid (cx_cat S8.out)
        obtain ⟨a7, cap7, rfl⟩ := R78.out.shape
        obtain ⟨a8, cap8, rfl⟩ := R8.out.shape
        have HLEN := Lib.hid HZ.out.len
        have HLN : Hid ((panesT t).length ≤ 200) := Lib.hid (by have := panes_len t; have := HSZ.out; omega)
        have HAT := Lib.hid (fun k p q => HZ.out.at (k := k) (p := p) (q := q))
        have HIL : Hid ((idsT z).length ≤ 1000000) := Lib.hid (by rw [ids_len]; have := lv_sz z; have := HZS.out; omega)
        rw [HLEN.out]
        have d0 : (((panesT t).length : Int) != ((panesT t).length : Int)) = false := by simp
        have HT8 := Lib.hid (rtiles8_any z y w8 (DY.out.up B8.out) (by have := HZS.out; omega))
        rw [HZ.out.tile] at HT8
        obtain ⟨c0, c1, c2, c3, c4, c5, c6⟩ := c7_of S9.out.2
        go_wp2_with fail
        refine HT8.out.mono ?_
        rintro e w9 ⟨rfl, hb9⟩
        have B9 := Lib.hid (B8'.out.trans (hb9.mono B8'.out.size))
        have Y9 := Lib.hid (S9.out.2.up hb9)
        have R7' := Lib.hid (R78.out.up hb9)
        have R8' := Lib.hid (R8.out.up hb9)
        have HID9 := Lib.hid (rids_any z y w9 (by have := HZS.out; omega) ((DY.out.up B8.out).up hb9))
        clear hb9 c0 c1 c2 c3 c4 c5 c6 HT8
        obtain ⟨c0, c1, c2, c3, c4, c5, c6⟩ := c7_of Y9.out
        go_wp2_with fail
        refine HID9.out.mono ?_
        rintro e w10 ⟨v10, rfl, ho10, hb10⟩
        have B10 := Lib.hid (B9.out.trans (hb10.mono B9.out.size))
        have R7 := Lib.hid (R7'.out.up hb10)
        have R8 := Lib.hid (R8'.out.up hb10)
        have R10 := Lib.hid ho10.row
        obtain ⟨a10, cap10, rfl⟩ := row_shape ho10.row
        clear ho10 hb10 c0 c1 c2 c3 c4 c5 c6 HID9 R7' R8'
        generalize panesT t = lt at HLEN HLN HAT R7 R78 d0 ⊢
        generalize panesT z = lz at HLEN HAT R8
        generalize idsT z = ids at HAT HIL R10 ⊢
        clear R78
        go_wp2
        go_loopg [16] (lt.length + 1) (fun g i wr => ∃ k : Nat, g + k = lt.length + 1 ∧ k ≤ lt.length ∧ i = .int .i64 k ∧ Below w10.heap.size w10 wr)
        case atStart => exact ⟨0, by omega, by omega, rfl, Below.refl _ _⟩
        case round =>
          obtain ⟨k, hg, hk, rfl, hbr⟩ := hrel
          have HG' := Lib.hid hg
          have HBR := Lib.hid hbr
          clear hg hbr
          by_cases hlt : k < lt.length
          · obtain ⟨b7, o7, rfl, hf7⟩ := R7.out.place (by omega)
            obtain ⟨b8, o8, rfl, hf8⟩ := R8.out.place (by have := HLEN.out; omega)
            obtain ⟨p, hp⟩ : ∃ p, lt[k]? = some p := ⟨_, List.getElem?_eq_getElem hlt⟩
            obtain ⟨q, hq⟩ : ∃ q, lz[k]? = some q := ⟨_, List.getElem?_eq_getElem (by have := HLEN.out; omega)⟩
            obtain ⟨hr, hm⟩ := HAT.out k p q hp hq
            obtain ⟨e0, e1, e2, e3, e4⟩ := (hf7 k p hp).up HBR.out
            obtain ⟨q0, q1, q2, q3, q4⟩ := (hf8 k q hq).up HBR.out
            have hE : ∀ w, (Op.equalIn 10000 23 (.agg #[.int .i64 p.r.x, .int .i64 p.r.y, .int .i64 p.r.w, .int .i64 p.r.h]) (.agg #[.int .i64 q.r.x, .int .i64 q.r.y, .int .i64 q.r.w, .int .i64 q.r.h])).run Try.prog w = .ok true w := fun w => by rw [← decide_eq_true hr]; exact eq_run p.r q.r w
            have HA := Lib.hid (fun n => rhasI_same _ ids p.id (wr.drewN n) ((R10.out.up HBR.out).up (below_drewN wr n)) HIL.out)
            rw [decide_eq_true hm] at HA
            have hln : lt.length ≤ 200 := HLN.out
            have hlz : lz.length = lt.length := HLEN.out
            have e9 : wrap64 ((k : Int) + 1) = ((k + 1 : Nat) : Int) := by rw [← wrapE, wrap_id (by omega)]; omega
            clear hf7 hf8 hp hq hr hm
            go_wp2
            go_quiet ((go_at_call 19; with_reducible exact quiet_same (HA.out _)))
            have BQ := Lib.hid (HBR.out.trans ((below_drewN wr nq).mono HBR.out.size))
            generalize wr.drewN nq = w11 at BQ ⊢
            go_wp2
            go_roundg (gk - 1)
            case measure => have := HG'.out; omega
            case rel => exact ⟨k + 1, by have := HG'.out; omega, by omega, by first | rfl | exact congrArg _ e9 | (rw [e9]) | (congr 1; omega) | (simp only [IntKind.wrap_i64, e9]), BQ.out⟩
          · obtain rfl : k = lt.length := by omega
            have hkl : ((lt.length : Int) < (lt.length : Int)) = False := by simp
            go_wp2_with fail
            refine (HAW.out wr).mono ?_
            rintro e w11 ⟨rfl, hb11⟩
            have B11 := Lib.hid ((B10.out.trans (HBR.out.mono B10.out.size)).trans (hb11.mono (Nat.le_trans B10.out.size HBR.out.size)))
            clear hb11
            go_wp2
            go_ret
            exact ⟨rfl, B11.out⟩
theorem swapKeeps_wf (HT : TwoK) (HR : RoundK) (v0 : Value) (t : T) (c : C) (a b by_ : Int) (w : World) (e0 : v0 = cval c) (hi : Is w c t) (hfa : fits a) (hfb : fits b) (hfy : fits by_) (hs : sz t ≤ 1048576) :
    Calls Try.prog 6 #[v0, .int .i64 a, .int .i64 b, .int .i64 by_] w fun e w' => e = .returned (.bool true) ∧ Below w.heap.size w w' := by
  subst e0
  exact swapKeeps_any HT HR t c a b by_ w hi hfa hfb hfy (by omega)
end Go.Proofs.Ytakofjbjciljjaa
