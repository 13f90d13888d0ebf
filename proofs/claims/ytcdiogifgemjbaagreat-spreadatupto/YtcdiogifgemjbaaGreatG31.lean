/- Texts of this seat, 3 in one file. -/
import Derived.Test.YtcdiogifgemjbaaGreatG29
import Derived.Test.YtcdiogifgemjbaaGreatG24
import Derived.Test.YtcdiogifgemjbaaGreatG30
import Derived.Test.YtcdiogifgemjbaaGreatG26
import Derived.Test.YtcdiogifgemjbaaGreatG18
/- Adjust: the document's answer. -/
namespace Go.Proofs.YtcdiogifgemjbaaGreat
open Go.RowKit

/-- What the call keeps: its tree's box, its answer's. -/
structure ASt (w : World) (c : C) (W : World) : Prop where
  below : Below w.heap.size w W
  box : Box7 W w.heap.size c
  zero : Zero7 W (w.heap.size + 1)
theorem ASt.up {w W W' : World} {c : C} (h : ASt w c W) (hb : Below W.heap.size W W') : ASt w c W' := ⟨h.below.trans (hb.mono h.below.size), h.box.up hb, zero_up h.zero hb⟩
theorem ASt.start (w : World) (c : C) : ASt w c (cellW w c) := ⟨cellW_below w c, cellW_box w c, cellW_zero w c⟩
theorem ASt.is {w W : World} {c : C} {t : T} (h : ASt w c W) (hi : Is w c t) : Is W c t := hi.up h.below
theorem c7_up {b : Nat} {c : C} {W W' : World} (h : C7 b c W) (hb : Below W.heap.size W W') : C7 b c W' := by
  obtain ⟨a0, a1, a2, a3, a4, a5, a6⟩ := h
  exact ⟨(hb.cell (lt_of_cell a0)).trans a0, (hb.cell (lt_of_cell a1)).trans a1, (hb.cell (lt_of_cell a2)).trans a2, (hb.cell (lt_of_cell a3)).trans a3, (hb.cell (lt_of_cell a4)).trans a4, (hb.cell (lt_of_cell a5)).trans a5, (hb.cell (lt_of_cell a6)).trans a6⟩
theorem c7_put7 {b k : Nat} {c x : C} {W : World} (h : C7 b c W) (h1 : b ≠ k) : C7 b c (put7 W k x) := by
  have g1 : ∀ o, (put7 W k x).cell? ⟨b, o, none⟩ = W.cell? ⟨b, o, none⟩ := fun o => World.cell?_of_block (a := ⟨b, o, none⟩) (heap_put7 h1)
  obtain ⟨a0, a1, a2, a3, a4, a5, a6⟩ := h
  exact ⟨(g1 _).trans a0, (g1 _).trans a1, (g1 _).trans a2, (g1 _).trans a3, (g1 _).trans a4, (g1 _).trans a5, (g1 _).trans a6⟩
/-- The answer's box is written: what stands behind it still does. -/
theorem stands_put {w W W0 : World} {c d : C} {base : Nat} {t : T} {S : List Nat} (h : ASt w c W) (ho : OwnT W base d t S) (hb : base = W0.heap.size) (hlt : w.heap.size + 1 < W0.heap.size) :
    Stands (fun _ => True) (put7 W (w.heap.size + 1) d) w.heap.size (put7 W (w.heap.size + 1) d).heap.size d t := by
  rw [size_put7]
  refine (ho.stands.move (w2 := put7 W (w.heap.size + 1) d) fun k hk _ => heap_put7 (by omega)).wide (by omega) (Nat.le_refl _)

set_option maxHeartbeats 4000000 in
set_option maxRecDepth 100000 in
theorem radjust_arg (t : T) (c : C) (ax b : Int) (w : World) (hm : sz t ≤ 990) (hi : Is w c t) (hn : ¬ (tileB t = true ∧ axB ax = true)) : Calls Tryz.prog 39 #[cval c, .int .u8 ax, .int .i64 b] w (AjSays ax b t .i64 w) := by
  have L0 := Lib.hid (ASt.start w c)
  have HE := Lib.hid (aj_arg (b := b) hn)
  have HT := Lib.hid (rtiles8_any t c (cellW w c) (L0.out.is hi) (by omega))
  have hcase : tileB t = false ∨ (tileB t = true ∧ decide (ax < 1) = true) ∨ (tileB t = true ∧ decide (ax < 1) = false ∧ decide (2 < ax) = true) := by
    cases h1 : tileB t with
    | false => exact .inl rfl
    | true =>
      rcases ax_test2 (ax := ax) (by cases h2 : axB ax with | false => rfl | true => exact absurd ⟨h1, h2⟩ hn) with h | h
      · exact .inr (.inl ⟨rfl, h⟩)
      · exact .inr (.inr ⟨rfl, h⟩)
  clear hi hm hn
  obtain ⟨c0, c1, c2, c3, c4, c5, c6⟩ := c7_of L0.out.box.cat
  rcases hcase with h1 | ⟨h1, d1⟩ | ⟨h1, d1, d2⟩
  all_goals
    rw [h1] at HT
    go_enter Tryz.func39, Tryz.ntmps39
    go_wp2_with fail
    refine HT.out.mono ?_
    rintro e w1 ⟨rfl, hb1⟩
    have L1 := Lib.hid (L0.out.up hb1)
    clear hb1
    obtain ⟨⟨z0, z1, z2, z3, z4, z5, z6⟩, f0, f1, f2, f3, f4, f5, f6⟩ := zero_parts L1.out.zero
    go_wp2
    (try simp only [Exit.inBlock, Exit.then])
    refine bodyPost_ret (results_c2 rfl _ _ (w.heap.size + 1) noC rfl ((Box7.of_zero L1.out.zero).put noC)) rfl ?_
    exact aj_err HE.out (by decide) (below_put7 L1.out.below (by omega) noC)

set_option maxHeartbeats 4000000 in
set_option maxRecDepth 100000 in
theorem radjust1_any (t : T) (c : C) (b : Int) (w : World) (hm : sz t ≤ 990) (hi : Is w c t) (hb : fits b) (ht : tileB t = true) : Calls Tryz.prog 39 #[cval c, .int .u8 1, .int .i64 b] w (AjSays 1 b t .i64 w) := by
  have L0 := Lib.hid (ASt.start w c)
  have HT := Lib.hid (rtiles8_any t c (cellW w c) (L0.out.is hi) (by omega))
  rw [ht] at HT
  have HE := Lib.hid (aj_do (ax := 1) (b := b) ⟨ht, rfl⟩)
  have hw := may_rect (well_rect (tile_top (by omega) ht).1)
  have hls := ls_pos 1 t
  have hls2 : lsT 1 t ≤ 40000 := by have := ls_sz 1 t; omega
  have htr := hi.split.2.1
  rw [htr] at hw HE
  have HST : Hid (ajT 1 b t = setT c.r.x c.r.y (adjT 1 b t)) := Lib.hid (by unfold ajT; rw [htr])
  have HCF := Lib.hid hi.fine.2.1
  have HSZ := Lib.hid (rsize_any c.r 1)
  have HOF := Lib.hid (fun W (h : Is W c t) => rof_any 1 (sz t) t c W (Nat.le_refl _) (by omega) h)
  have HCAN := Lib.hid (aj_can (ax := 1) (b := b) (t := t))
  rw [htr] at HCAN
  have HI := Lib.hid hi
  have HM := Lib.hid hm
  have HTT := Lib.hid ht
  obtain ⟨hb1, hb2⟩ := hb
  have hat : atA c.r 1 = c.r.x := rfl
  have hsz : szA c.r 1 = c.r.w := rfl
  rw [hat, hsz] at HE HCAN
  rw [hsz] at HSZ
  generalize hls0 : lsT 1 t = m at HE HCAN HOF hls hls2
  clear hi hm ht htr hat hsz hls0
  obtain ⟨c0, c1, c2, c3, c4, c5, c6⟩ := c7_of L0.out.box.cat
  go_enter Tryz.func39, Tryz.ntmps39
  go_wp2_with fail
  refine HT.out.mono ?_
  rintro e w1 ⟨rfl, hb1'⟩
  have L1 := Lib.hid (L0.out.up hb1')
  clear hb1' c0 c1 c2 c3 c4 c5 c6 HT
  obtain ⟨c0, c1, c2, c3, c4, c5, c6⟩ := c7_of L1.out.box.cat
  go_wp2_with fail
  refine (HSZ.out w1).mono ?_
  rintro e w2 ⟨rfl, hb2'⟩
  have L2 := Lib.hid (L1.out.up hb2')
  clear hb2' c0 c1 c2 c3 c4 c5 c6 L1
  obtain ⟨c0, c1, c2, c3, c4, c5, c6⟩ := c7_of L2.out.box.cat
  by_cases g1 : 10000 < b
  · have d1 : decide (10000 < b) = true := decide_eq_true g1
    have HE9 := Lib.hid (HE.out.trans (if_pos (.inl g1)))
    clear g1
    obtain ⟨⟨z0, z1, z2, z3, z4, z5, z6⟩, f0, f1, f2, f3, f4, f5, f6⟩ := zero_parts L2.out.zero
    go_wp2
    (try simp only [Exit.inBlock, Exit.then])
    refine bodyPost_ret (results_c2 rfl _ _ (w.heap.size + 1) noC rfl ((Box7.of_zero L2.out.zero).put noC)) rfl ?_
    exact aj_err HE9.out (by decide) (below_put7 L2.out.below (by omega) noC)
  have d1 : decide (10000 < b) = false := decide_eq_false g1
  by_cases g2 : b < -10000
  · have d2 : decide (b < -10000) = true := decide_eq_true g2
    have HE9 := Lib.hid (HE.out.trans (if_pos (.inr (.inl g2))))
    clear g1 g2
    obtain ⟨⟨z0, z1, z2, z3, z4, z5, z6⟩, f0, f1, f2, f3, f4, f5, f6⟩ := zero_parts L2.out.zero
    go_wp2
    (try simp only [Exit.inBlock, Exit.then])
    refine bodyPost_ret (results_c2 rfl _ _ (w.heap.size + 1) noC rfl ((Box7.of_zero L2.out.zero).put noC)) rfl ?_
    exact aj_err HE9.out (by decide) (below_put7 L2.out.below (by omega) noC)
  have d2 : decide (b < -10000) = false := decide_eq_false g2
  have hw1 : IntKind.i64.wrap (c.r.x + c.r.w) = c.r.x + c.r.w := wrap_id (by omega)
  have hw2 : IntKind.i64.wrap (c.r.x + c.r.w + b) = c.r.x + c.r.w + b := wrap_id (by omega)
  have hw3 : IntKind.i64.wrap (c.r.w + b) = c.r.w + b := wrap_id (by omega)
  by_cases g3 : 10000 < c.r.x + c.r.w + b
  · have d3 : decide (10000 < c.r.x + c.r.w + b) = true := decide_eq_true g3
    have HE9 := Lib.hid (HE.out.trans (if_pos (.inr (.inr (.inl g3)))))
    clear g1 g2 g3
    obtain ⟨⟨z0, z1, z2, z3, z4, z5, z6⟩, f0, f1, f2, f3, f4, f5, f6⟩ := zero_parts L2.out.zero
    go_wp2
    (try simp only [Exit.inBlock, Exit.then])
    refine bodyPost_ret (results_c2 rfl _ _ (w.heap.size + 1) noC rfl ((Box7.of_zero L2.out.zero).put noC)) rfl ?_
    exact aj_err HE9.out (by decide) (below_put7 L2.out.below (by omega) noC)
  have d3 : decide (10000 < c.r.x + c.r.w + b) = false := decide_eq_false g3
  have HGO := Lib.hid (show ¬ (10000 < b) ∧ ¬ (b < -10000) ∧ ¬ (10000 < c.r.x + c.r.w + b) from ⟨g1, g2, g3⟩)
  clear g1 g2 g3
  go_wp2_with fail
  refine (HOF.out w2 (L2.out.is HI.out)).mono ?_
  rintro e w3 ⟨rfl, hb3'⟩
  have L3 := Lib.hid (L2.out.up hb3')
  clear hb3' c0 c1 c2 c3 c4 c5 c6 L2
  by_cases g4 : c.r.w + b < m
  · have d4 : decide (c.r.w + b < m) = true := decide_eq_true g4
    have HE9 := Lib.hid (HE.out.trans (if_pos (.inr (.inr (.inr g4)))))
    clear g4
    obtain ⟨⟨z0, z1, z2, z3, z4, z5, z6⟩, f0, f1, f2, f3, f4, f5, f6⟩ := zero_parts L3.out.zero
    go_wp2
    (try simp only [Exit.inBlock, Exit.then])
    refine bodyPost_ret (results_c2 rfl _ _ (w.heap.size + 1) noC rfl ((Box7.of_zero L3.out.zero).put noC)) rfl ?_
    exact aj_err HE9.out (by decide) (below_put7 L3.out.below (by omega) noC)
  · have d4 : decide (c.r.w + b < m) = false := decide_eq_false g4
    have hno : ¬ (10000 < b ∨ b < -10000 ∨ 10000 < c.r.x + c.r.w + b ∨ c.r.w + b < m) := by have := HGO.out; omega
    have HE9 := Lib.hid (HE.out.trans (if_neg hno))
    have hcan := HCAN.out hno
    have D3 : Hid (ASt w c w3.drew) := Lib.hid (L3.out.up (Below.refl _ _).drew)
    have X3 := Lib.hid (c7_of D3.out.box.cat)
    have HAD := Lib.hid (radj1_any (sz t) t c b w3.drew (Nat.le_refl _) HM.out HTT.out hcan (D3.out.is HI.out))
    have HSET := Lib.hid (fun (d : C) (W : World) (h : Is W d (adjT 1 b t)) => rset_any (sz (adjT 1 b t)) (adjT 1 b t) d c.r.x c.r.y W (Nat.le_refl _) HCF.out.1 HCF.out.2.1 h)
    clear hno g4 hcan HE HCAN
    generalize adjT 1 b t = t' at HAD HSET HST
    go_wp2_with fail
    go_region_held3 (fun W => W.cell? ⟨w.heap.size, 0, none⟩ = some (.int .u8 c.k) ∧ W.cell? ⟨w.heap.size, 1, none⟩ = some (.int .i64 c.r.x) ∧ W.cell? ⟨w.heap.size, 2, none⟩ = some (.int .i64 c.r.y) ∧ W.cell? ⟨w.heap.size, 3, none⟩ = some (.int .i64 c.r.w) ∧ W.cell? ⟨w.heap.size, 4, none⟩ = some (.int .i64 c.r.h) ∧ W.cell? ⟨w.heap.size, 5, none⟩ = some (.int .i64 c.id) ∧ W.cell? ⟨w.heap.size, 6, none⟩ = some (.slice c.a c.n c.cap)) (first | with_reducible exact X3.out | with_reducible exact X4.out | with_reducible exact X5.out | with_reducible exact X6.out)
      (first
        | (go_at_call 59; (with_reducible refine HAD.out.mono ?_); rintro e w4 ⟨d4, rfl, hst4, hb4⟩; have L4 := Lib.hid (D3.out.up hb4); have X4 := Lib.hid (c7_of L4.out.box.cat); have I4 := Lib.hid (hst4.is trivial); clear hst4 hb4)
        | (go_at_call 25; (with_reducible refine (HSET.out d4 w4 I4.out).mono ?_); rintro e w5 ⟨d5, S5, rfl, hown5, -, hb5⟩; have L5 := Lib.hid (L4.out.up hb5); have X5 := Lib.hid (c7_of L5.out.box.cat); have O5 := Lib.hid hown5; have X6 := Lib.hid (c7_put7 (k := w.heap.size + 1) (x := d5) X5.out (by omega)); obtain ⟨⟨z0, z1, z2, z3, z4, z5, z6⟩, f0, f1, f2, f3, f4, f5, f6⟩ := zero_parts L5.out.zero; clear hown5 hb5))
    go_wp2
    (try simp only [Exit.inBlock, Exit.then])
    refine bodyPost_ret (results_c2 rfl _ _ (w.heap.size + 1) d5 rfl ((Box7.of_zero L5.out.zero).put d5)) rfl ?_
    exact aj_ok HE9.out HST.out (stands_put L5.out O5.out rfl (lt_of_block L4.out.zero)) (below_put7 L5.out.below (by omega) d5)

set_option maxHeartbeats 4000000 in
set_option maxRecDepth 100000 in
theorem radjust2_any (t : T) (c : C) (b : Int) (w : World) (hm : sz t ≤ 990) (hi : Is w c t) (hb : fits b) (ht : tileB t = true) : Calls Tryz.prog 39 #[cval c, .int .u8 2, .int .i64 b] w (AjSays 2 b t .i64 w) := by
  have L0 := Lib.hid (ASt.start w c)
  have HT := Lib.hid (rtiles8_any t c (cellW w c) (L0.out.is hi) (by omega))
  rw [ht] at HT
  have HE := Lib.hid (aj_do (ax := 2) (b := b) ⟨ht, rfl⟩)
  have hw := may_rect (well_rect (tile_top (by omega) ht).1)
  have hls := ls_pos 2 t
  have hls2 : lsT 2 t ≤ 40000 := by have := ls_sz 2 t; omega
  have htr := hi.split.2.1
  rw [htr] at hw HE
  have HST : Hid (ajT 2 b t = setT c.r.x c.r.y (adjT 2 b t)) := Lib.hid (by unfold ajT; rw [htr])
  have HCF := Lib.hid hi.fine.2.1
  have HSZ := Lib.hid (rsize_any c.r 2)
  have HOF := Lib.hid (fun W (h : Is W c t) => rof_any 2 (sz t) t c W (Nat.le_refl _) (by omega) h)
  have HCAN := Lib.hid (aj_can (ax := 2) (b := b) (t := t))
  rw [htr] at HCAN
  have HI := Lib.hid hi
  have HM := Lib.hid hm
  have HTT := Lib.hid ht
  obtain ⟨hb1, hb2⟩ := hb
  have hat : atA c.r 2 = c.r.y := rfl
  have hsz : szA c.r 2 = c.r.h := rfl
  rw [hat, hsz] at HE HCAN
  rw [hsz] at HSZ
  generalize hls0 : lsT 2 t = m at HE HCAN HOF hls hls2
  clear hi hm ht htr hat hsz hls0
  obtain ⟨c0, c1, c2, c3, c4, c5, c6⟩ := c7_of L0.out.box.cat
  go_enter Tryz.func39, Tryz.ntmps39
  go_wp2_with fail
  refine HT.out.mono ?_
  rintro e w1 ⟨rfl, hb1'⟩
  have L1 := Lib.hid (L0.out.up hb1')
  clear hb1' c0 c1 c2 c3 c4 c5 c6 HT
  obtain ⟨c0, c1, c2, c3, c4, c5, c6⟩ := c7_of L1.out.box.cat
  go_wp2_with fail
  refine (HSZ.out w1).mono ?_
  rintro e w2 ⟨rfl, hb2'⟩
  have L2 := Lib.hid (L1.out.up hb2')
  clear hb2' c0 c1 c2 c3 c4 c5 c6 L1
  obtain ⟨c0, c1, c2, c3, c4, c5, c6⟩ := c7_of L2.out.box.cat
  by_cases g1 : 10000 < b
  · have d1 : decide (10000 < b) = true := decide_eq_true g1
    have HE9 := Lib.hid (HE.out.trans (if_pos (.inl g1)))
    clear g1
    obtain ⟨⟨z0, z1, z2, z3, z4, z5, z6⟩, f0, f1, f2, f3, f4, f5, f6⟩ := zero_parts L2.out.zero
    go_wp2
    (try simp only [Exit.inBlock, Exit.then])
    refine bodyPost_ret (results_c2 rfl _ _ (w.heap.size + 1) noC rfl ((Box7.of_zero L2.out.zero).put noC)) rfl ?_
    exact aj_err HE9.out (by decide) (below_put7 L2.out.below (by omega) noC)
  have d1 : decide (10000 < b) = false := decide_eq_false g1
  by_cases g2 : b < -10000
  · have d2 : decide (b < -10000) = true := decide_eq_true g2
    have HE9 := Lib.hid (HE.out.trans (if_pos (.inr (.inl g2))))
    clear g1 g2
    obtain ⟨⟨z0, z1, z2, z3, z4, z5, z6⟩, f0, f1, f2, f3, f4, f5, f6⟩ := zero_parts L2.out.zero
    go_wp2
    (try simp only [Exit.inBlock, Exit.then])
    refine bodyPost_ret (results_c2 rfl _ _ (w.heap.size + 1) noC rfl ((Box7.of_zero L2.out.zero).put noC)) rfl ?_
    exact aj_err HE9.out (by decide) (below_put7 L2.out.below (by omega) noC)
  have d2 : decide (b < -10000) = false := decide_eq_false g2
  have hw1 : IntKind.i64.wrap (c.r.y + c.r.h) = c.r.y + c.r.h := wrap_id (by omega)
  have hw2 : IntKind.i64.wrap (c.r.y + c.r.h + b) = c.r.y + c.r.h + b := wrap_id (by omega)
  have hw3 : IntKind.i64.wrap (c.r.h + b) = c.r.h + b := wrap_id (by omega)
  by_cases g3 : 10000 < c.r.y + c.r.h + b
  · have d3 : decide (10000 < c.r.y + c.r.h + b) = true := decide_eq_true g3
    have HE9 := Lib.hid (HE.out.trans (if_pos (.inr (.inr (.inl g3)))))
    clear g1 g2 g3
    obtain ⟨⟨z0, z1, z2, z3, z4, z5, z6⟩, f0, f1, f2, f3, f4, f5, f6⟩ := zero_parts L2.out.zero
    go_wp2
    (try simp only [Exit.inBlock, Exit.then])
    refine bodyPost_ret (results_c2 rfl _ _ (w.heap.size + 1) noC rfl ((Box7.of_zero L2.out.zero).put noC)) rfl ?_
    exact aj_err HE9.out (by decide) (below_put7 L2.out.below (by omega) noC)
  have d3 : decide (10000 < c.r.y + c.r.h + b) = false := decide_eq_false g3
  have HGO := Lib.hid (show ¬ (10000 < b) ∧ ¬ (b < -10000) ∧ ¬ (10000 < c.r.y + c.r.h + b) from ⟨g1, g2, g3⟩)
  clear g1 g2 g3
  go_wp2_with fail
  refine (HOF.out w2 (L2.out.is HI.out)).mono ?_
  rintro e w3 ⟨rfl, hb3'⟩
  have L3 := Lib.hid (L2.out.up hb3')
  clear hb3' c0 c1 c2 c3 c4 c5 c6 L2
  by_cases g4 : c.r.h + b < m
  · have d4 : decide (c.r.h + b < m) = true := decide_eq_true g4
    have HE9 := Lib.hid (HE.out.trans (if_pos (.inr (.inr (.inr g4)))))
    clear g4
    obtain ⟨⟨z0, z1, z2, z3, z4, z5, z6⟩, f0, f1, f2, f3, f4, f5, f6⟩ := zero_parts L3.out.zero
    go_wp2
    (try simp only [Exit.inBlock, Exit.then])
    refine bodyPost_ret (results_c2 rfl _ _ (w.heap.size + 1) noC rfl ((Box7.of_zero L3.out.zero).put noC)) rfl ?_
    exact aj_err HE9.out (by decide) (below_put7 L3.out.below (by omega) noC)
  · have d4 : decide (c.r.h + b < m) = false := decide_eq_false g4
    have hno : ¬ (10000 < b ∨ b < -10000 ∨ 10000 < c.r.y + c.r.h + b ∨ c.r.h + b < m) := by have := HGO.out; omega
    have HE9 := Lib.hid (HE.out.trans (if_neg hno))
    have hcan := HCAN.out hno
    have D3 : Hid (ASt w c w3.drew) := Lib.hid (L3.out.up (Below.refl _ _).drew)
    have X3 := Lib.hid (c7_of D3.out.box.cat)
    have HAD := Lib.hid (radj2_any (sz t) t c b w3.drew (Nat.le_refl _) HM.out HTT.out hcan (D3.out.is HI.out))
    have HSET := Lib.hid (fun (d : C) (W : World) (h : Is W d (adjT 2 b t)) => rset_any (sz (adjT 2 b t)) (adjT 2 b t) d c.r.x c.r.y W (Nat.le_refl _) HCF.out.1 HCF.out.2.1 h)
    clear hno g4 hcan HE HCAN
    generalize adjT 2 b t = t' at HAD HSET HST
    go_wp2_with fail
    go_region_held3 (fun W => W.cell? ⟨w.heap.size, 0, none⟩ = some (.int .u8 c.k) ∧ W.cell? ⟨w.heap.size, 1, none⟩ = some (.int .i64 c.r.x) ∧ W.cell? ⟨w.heap.size, 2, none⟩ = some (.int .i64 c.r.y) ∧ W.cell? ⟨w.heap.size, 3, none⟩ = some (.int .i64 c.r.w) ∧ W.cell? ⟨w.heap.size, 4, none⟩ = some (.int .i64 c.r.h) ∧ W.cell? ⟨w.heap.size, 5, none⟩ = some (.int .i64 c.id) ∧ W.cell? ⟨w.heap.size, 6, none⟩ = some (.slice c.a c.n c.cap)) (first | with_reducible exact X3.out | with_reducible exact X4.out | with_reducible exact X5.out | with_reducible exact X6.out)
      (first
        | (go_at_call 59; (with_reducible refine HAD.out.mono ?_); rintro e w4 ⟨d4, rfl, hst4, hb4⟩; have L4 := Lib.hid (D3.out.up hb4); have X4 := Lib.hid (c7_of L4.out.box.cat); have I4 := Lib.hid (hst4.is trivial); clear hst4 hb4)
        | (go_at_call 25; (with_reducible refine (HSET.out d4 w4 I4.out).mono ?_); rintro e w5 ⟨d5, S5, rfl, hown5, -, hb5⟩; have L5 := Lib.hid (L4.out.up hb5); have X5 := Lib.hid (c7_of L5.out.box.cat); have O5 := Lib.hid hown5; have X6 := Lib.hid (c7_put7 (k := w.heap.size + 1) (x := d5) X5.out (by omega)); obtain ⟨⟨z0, z1, z2, z3, z4, z5, z6⟩, f0, f1, f2, f3, f4, f5, f6⟩ := zero_parts L5.out.zero; clear hown5 hb5))
    go_wp2
    (try simp only [Exit.inBlock, Exit.then])
    refine bodyPost_ret (results_c2 rfl _ _ (w.heap.size + 1) d5 rfl ((Box7.of_zero L5.out.zero).put d5)) rfl ?_
    exact aj_ok HE9.out HST.out (stands_put L5.out O5.out rfl (lt_of_block L4.out.zero)) (below_put7 L5.out.below (by omega) d5)

theorem radjust_any (t : T) (c : C) (ax b : Int) (w : World) (hm : sz t ≤ 990) (hi : Is w c t) (hb : fits b) : Calls Tryz.prog 39 #[cval c, .int .u8 ax, .int .i64 b] w (AjSays ax b t .i64 w) := by
  by_cases h : tileB t = true ∧ axB ax = true
  · obtain ⟨ht, ha⟩ := h
    rcases (axB_iff ax).1 ha with rfl | rfl
    · exact radjust1_any t c b w hm hi hb ht
    · exact radjust2_any t c b w hm hi hb ht
  · exact radjust_arg t c ax b w hm hi h
end Go.Proofs.YtcdiogifgemjbaaGreat
/- The kids of a cell, all of one size: the document's walk. -/
namespace Go.Proofs.YtcdiogifgemjbaaGreat
open Go.RowKit

/-- Above wr nothing elder turns; the cell's box. -/
structure KSt (w : World) (c : C) (wr W : World) : Prop where
  below : Below w.heap.size w W
  more : Below wr.heap.size wr W
  box : Box7 W w.heap.size c
  far : w.heap.size < wr.heap.size
theorem KSt.up {w wr W W' : World} {c : C} (h : KSt w c wr W) (hb : Below W.heap.size W W') : KSt w c wr W' := ⟨h.below.trans (hb.mono h.below.size), h.more.trans (hb.mono h.more.size), h.box.up hb, h.far⟩
theorem kst_al {w wr W : World} {c : C} (h : KSt w c wr W) (o : Obj) : KSt w c wr (W.alloc o) := h.up ((Below.refl _ _).alloc (Nat.le_refl _) o)
theorem is_alK {W : World} {c : C} {t : T} (h : Is W c t) (o : Obj) : Is (W.alloc o) c t := h.up ((Below.refl _ _).alloc (Nat.le_refl _) o)
theorem kst_put {w wr W : World} {c : C} {b : Nat} (h : KSt w c wr W) (hb : wr.heap.size ≤ b) (x : C) : KSt w c wr (put7 W b x) :=
  ⟨below_put7 h.below (by have := h.far; omega) x, below_put7 h.more hb x, (heap_put7 (by have := h.far; omega)).trans h.box, h.far⟩
def ZK (wr W : World) (b : Nat) : Prop := Zero7 W b ∧ wr.heap.size ≤ b
theorem ZK.up {wr W W' : World} {b : Nat} (h : ZK wr W b) (hb : Below W.heap.size W W') : ZK wr W' b := ⟨zero_up h.1 hb, h.2⟩
theorem zk_new {w wr W : World} {c : C} (h : KSt w c wr W) : ZK wr (W.alloc zeroBox) W.heap.size := ⟨zero_new W, h.more.size⟩
theorem zk_drew {w wr W : World} {c : C} (h : KSt w c wr W) : ZK wr (W.alloc zeroBox).drew W.heap.size := ⟨zero_new W, h.more.size⟩
/-- One that was made, in a box of its own. -/
structure Km (w : World) (c : C) (wr : World) (b : Nat) (d : C) (g : T) (W : World) : Prop where
  st : KSt w c wr W
  box : Box7 W b d
  stands : Stands (fun _ => True) W wr.heap.size W.heap.size d g
theorem km_new {w wr W W6 : World} {c d : C} {g : T} (h : KSt w c wr W) (h6 : KSt w c wr W6) (hs : Stands (fun _ => True) W W6.heap.size W.heap.size d g) : Km w c wr W.heap.size d g (W.alloc (cbox d)) := by
  have hb : Below W.heap.size W (W.alloc (cbox d)) := (Below.refl _ _).alloc (Nat.le_refl _) _
  exact ⟨h.up hb, Box7.new W d, (hs.up hb (Nat.le_refl _)).wide h6.more.size hb.size⟩
theorem km_put {w wr W W6 : World} {c d : C} {b : Nat} {g : T} (h : KSt w c wr W) (h6 : KSt w c wr W6) (hz : ZK wr W b) (hz6 : ZK wr W6 b) (hs : Stands (fun _ => True) W W6.heap.size W.heap.size d g) : Km w c wr b d g (put7 W b d) := by
  have h2 := lt_of_block hz6.1
  refine ⟨kst_put h hz.2 d, (Box7.of_zero hz.1).put d, ?_⟩
  rw [size_put7]
  exact (hs.move fun k hk _ => heap_put7 (by omega)).wide h6.more.size (Nat.le_refl _)

/-- What the loop keeps: nothing of w4 turns but the row's first block. -/
structure KR (w w4 wr : World) (ini : Nat) (v : Value) : Prop where
  below : Below w.heap.size w wr
  grown : w4.grownBy wr (some ini)
  own : v.ownBlock = some ini ∨ ∀ g, v.ownBlock = some g → w4.heap.size ≤ g
theorem KR.step {w w4 wr W9 w3 : World} {ini g3 n cap : Nat} {v : Value} (h : KR w w4 wr ini v) (hb : Below wr.heap.size wr W9) (hgr : W9.grownBy w3 v.ownBlock) (hpl : v.ownBlock = some g3 ∨ g3 = W9.heap.size) (hb3 : Below w.heap.size w w3) : KR w w4 w3 ini (.slice (some ⟨g3, 0, none⟩) n cap) := by
  have s1 := h.grown.size
  have s2 := hb.size
  have s3 := hgr.size
  refine ⟨hb3, ⟨?_, ?_, ?_, by omega, fun k hk hne => ?_⟩, ?_⟩
  · rw [hgr.os, hb.os, h.grown.os]
  · rw [hgr.tape, hb.tape, h.grown.tape]
  · rw [hgr.output, hb.output, h.grown.output]
  · rw [hgr.block k (by omega) (fun e => by
      rcases h.own with ho | ho
      · rw [ho] at e; exact hne e
      · have := ho k e.symm; omega), hb.block k (by omega), h.grown.block k hk hne]
  · rcases hpl with hp | hp
    · rcases h.own with ho | ho
      · left; rw [hp] at ho; cases ho; rfl
      · right; intro g hg; cases hg; exact ho _ hp
    · right; intro g hg; cases hg; show w4.heap.size ≤ g3; omega
def KnSays (t : T) (w : World) (e : Ending) (w' : World) : Prop :=
  ∃ v cs, e = .returned (.tuple #[v, .int .i64 (svE t)]) ∧ Grove (fun _ => True) w' w.heap.size v cs (if svE t = 0 then svL t else []) ∧ Below w.heap.size w w'
theorem kn_err {t : T} {n : Int} {w w' : World} {v : Value} {cs : List C} (hn : svE t = n) (h0 : n ≠ 0) (hg : Grove (fun _ => True) w' w.heap.size v cs []) (hb : Below w.heap.size w w') : KnSays t w (.returned (.tuple #[v, .int .i64 n])) w' := by
  subst hn
  exact ⟨v, cs, rfl, by rw [if_neg h0]; exact hg, hb⟩
theorem kn_ok {t : T} {w w' : World} {v : Value} {cs : List C} (hn : svE t = 0) (hg : Grove (fun _ => True) w' w.heap.size v cs (svL t)) (hb : Below w.heap.size w w') : KnSays t w (.returned (.tuple #[v, .int .i64 0])) w' :=
  ⟨v, cs, by rw [hn], by rw [if_pos hn]; exact hg, hb⟩
theorem evn_yes {s : Int} {n : Nat} {w : World} {e : Ending} {w' : World} (h : EvnSays s n w e w') (ho : okEv s n) : ∃ a cap, e = .returned (.tuple #[.slice a n cap, .bool true]) ∧ OwnI w' w.heap.size (.slice a n cap) (evL s n) ∧ Below w.heap.size w w' := by
  obtain ⟨v, h1 | h1, hb⟩ := h
  · obtain ⟨-, he, hr⟩ := h1
    rw [Int.toNat_natCast] at hr
    obtain ⟨a, cap, rfl⟩ := row_shape hr.row
    rw [evL_len] at he hr
    exact ⟨a, cap, he, hr, hb⟩
  · exact absurd ho h1.1
theorem evn_no {s : Int} {n : Nat} {w : World} {e : Ending} {w' : World} (h : EvnSays s n w e w') (ho : ¬ okEv s n) : ∃ v, e = .returned (.tuple #[v, .bool false]) ∧ Below w.heap.size w w' := by
  obtain ⟨v, h1 | h1, hb⟩ := h
  · exact absurd h1.1 ho
  · exact ⟨v, h1.2.1, hb⟩
abbrev knW (w : World) (c : C) : World := (w.alloc (cbox c)).alloc (.cells #[] 26)

theorem kn_grove (w : World) (c : C) : Grove (fun _ => True) (knW w c) w.heap.size (.slice (some ⟨w.heap.size + 1, 0, none⟩) 0 0) [] [] := by
  have B1 : Below w.heap.size w (w.alloc (cbox c)) := (Below.refl _ _).alloc (Nat.le_refl _) _
  have h := Grove.empty (fun _ => True) (w.alloc (cbox c)) w.heap.size B1.size
  have e : (w.alloc (cbox c)).heap.size = w.heap.size + 1 := by simp
  rw [e] at h
  exact h

set_option maxHeartbeats 1000000 in
set_option maxRecDepth 100000 in
theorem rkids_leaf (t : T) (c : C) (w : World) (hi : Is w c t) (hk : t.k = 1) : Calls Tryz.prog 23 #[cval c] w (KnSays t w) := by
  have HE := Lib.hid (svE_leaf hk)
  have hk' : c.k = 1 := by rw [← hi.split.1]; exact hk
  have B1 : Below w.heap.size w (w.alloc (cbox c)) := (Below.refl _ _).alloc (Nat.le_refl _) _
  have B2 : Below (w.alloc (cbox c)).heap.size (w.alloc (cbox c)) (knW w c) := (Below.refl _ _).alloc (Nat.le_refl _) _
  have HB : Hid (Below w.heap.size w (knW w c)) := Lib.hid (B1.trans (B2.mono B1.size))
  have HG := Lib.hid (kn_grove w c)
  have c0 : (knW w c).cell? ⟨w.heap.size, 0, none⟩ = some (.int .u8 1) := by
    have := (c7_of ((Box7.new w c).up B2).cat).1
    rw [hk'] at this; exact this
  clear hi hk hk' B1 B2
  go_enter Tryz.func23, Tryz.ntmps23
  go_wp2
  go_ret2
  exact kn_err HE.out (by decide) HG.out HB.out

set_option maxHeartbeats 8000000 in
set_option maxRecDepth 100000 in
theorem rkids_any (t : T) (c : C) (w : World) (hm : sz t ≤ 990) (ht : tileB t = true) (hi : Is w c t) : Calls Tryz.prog 23 #[cval c] w (KnSays t w) := by
  by_cases hk1 : t.k = 1
  · exact rkids_leaf t c w hi hk1
  have hw := (tile_top (by omega) ht).1
  have hr := may_rect (well_rect hw)
  have hk23 : t.k = 2 ∨ t.k = 3 := by rcases well_kind hw with h | h | h <;> omega
  have h2 := kids_two (by omega) ht hk1
  have hfn : t.kids.length ≤ 990 := by have := sz_node t; have := szL_len t.kids; omega
  have HSP := Lib.hid hi.split
  have HR := Lib.hid hi.row
  have hn := hi.n
  obtain ⟨ck, cr, cid, ca, cn, ccap⟩ := c
  simp only at hn
  subst hn
  have e1 : t.k = ck := HSP.out.1
  have e2 : t.r = cr := HSP.out.2.1
  obtain ⟨b, o, rfl, hf⟩ := HR.out.place (by omega)
  obtain ⟨ax, hax⟩ : ∃ ax, ck - 1 = ax := ⟨_, rfl⟩
  have haxk : t.k - 1 = ax := by rw [e1]; exact hax
  have hwu : IntKind.u8.wrap (ck - 1) = ax := by rw [← hax]; rcases hk23 with h | h <;> (rw [← e1, h]; decide)
  have d0 : (ck == 1) = false := by rw [beq_eq_false_iff_ne, ← e1]; exact hk1
  have B1 : Below w.heap.size w (w.alloc (cbox ⟨ck, cr, cid, some ⟨b, o, none⟩, t.kids.length, ccap⟩)) := (Below.refl _ _).alloc (Nat.le_refl _) _
  have B2 : Below (w.alloc (cbox ⟨ck, cr, cid, some ⟨b, o, none⟩, t.kids.length, ccap⟩)).heap.size (w.alloc (cbox ⟨ck, cr, cid, some ⟨b, o, none⟩, t.kids.length, ccap⟩)) (knW w ⟨ck, cr, cid, some ⟨b, o, none⟩, t.kids.length, ccap⟩) := (Below.refl _ _).alloc (Nat.le_refl _) _
  have HB := Lib.hid (B1.trans (B2.mono B1.size))
  have HG := Lib.hid (kn_grove w ⟨ck, cr, cid, some ⟨b, o, none⟩, t.kids.length, ccap⟩)
  have HX0 := Lib.hid ((Box7.new w ⟨ck, cr, cid, some ⟨b, o, none⟩, t.kids.length, ccap⟩).up B2)
  have HES : w.heap.size < (knW w ⟨ck, cr, cid, some ⟨b, o, none⟩, t.kids.length, ccap⟩).heap.size := by simp; omega
  have HS0 : Hid (w.heap.size + 2 ≤ (knW w ⟨ck, cr, cid, some ⟨b, o, none⟩, t.kids.length, ccap⟩).heap.size) := Lib.hid (by simp)
  have HF := Lib.hid hf
  have HI := Lib.hid hi
  have HM := Lib.hid hm
  have HTT := Lib.hid ht
  have HSZ0 := Lib.hid (fun W => rsize_any cr ax W)
  obtain ⟨S, hS⟩ : ∃ S, szA t.r (t.k - 1) = S := ⟨_, rfl⟩
  have hS2 : szA cr ax = S := by rw [← hS, e2, haxk]
  rw [hS2] at HSZ0
  have HSB : Hid (1 ≤ S ∧ S ≤ 10000) := Lib.hid (by rw [← hS]; unfold szA; split <;> omega)
  have HSS := Lib.hid hS
  have HK1 := Lib.hid hk1
  have HAXK := Lib.hid haxk
  have HFN := Lib.hid hfn
  have HEV := Lib.hid (fun W => rsizesE_any S (t.kids.length : Int) W)
  clear hi hm ht hw hr hk23 h2 hS hS2 hax haxk e1 e2 hk1 B1 B2 hf
  go_enter Tryz.func23, Tryz.ntmps23
  go_upto_region 2 with fail
  change Code.wp _ _ _ _ (knW w ⟨ck, cr, cid, some ⟨b, o, none⟩, t.kids.length, ccap⟩)
  generalize knW w ⟨ck, cr, cid, some ⟨b, o, none⟩, t.kids.length, ccap⟩ = W0 at HB HG HX0 HES HS0 ⊢
  have L0 : Hid (KSt w ⟨ck, cr, cid, some ⟨b, o, none⟩, t.kids.length, ccap⟩ W0 W0) := Lib.hid ⟨HB.out, Below.refl _ _, HX0.out, HES⟩
  have D0 : Hid (KSt w ⟨ck, cr, cid, some ⟨b, o, none⟩, t.kids.length, ccap⟩ W0 W0.drew) := Lib.hid (L0.out.up (Below.refl _ _).drew)
  have HX : Hid (∀ wr W, KSt w ⟨ck, cr, cid, some ⟨b, o, none⟩, t.kids.length, ccap⟩ wr W → C7 w.heap.size ⟨ck, cr, cid, some ⟨b, o, none⟩, t.kids.length, ccap⟩ W) := Lib.hid fun wr W L => c7_of L.box.cat
  by_cases hok : okEv S t.kids.length
  · have HOK := Lib.hid hok
    have HEY : Hid (∀ W, Calls Tryz.prog 37 #[.int .i64 S, .int .i64 (t.kids.length : Int)] W fun e w' => ∃ a cap, e = .returned (.tuple #[.slice a t.kids.length cap, .bool true]) ∧ OwnI w' W.heap.size (.slice a t.kids.length cap) (evL S t.kids.length) ∧ Below W.heap.size W w') := Lib.hid fun W => (HEV.out W).mono fun e w' h => evn_yes h HOK.out
    clear hok HEV
    obtain ⟨c0, c1, c2, c3, c4, c5, c6⟩ := c7_of L0.out.box.cat
    go_wp2_with fail
    go_region_held3 (fun W => W.cell? ⟨w.heap.size, 0, none⟩ = some (.int .u8 ck) ∧ W.cell? ⟨w.heap.size, 1, none⟩ = some (.int .i64 cr.x) ∧ W.cell? ⟨w.heap.size, 2, none⟩ = some (.int .i64 cr.y) ∧ W.cell? ⟨w.heap.size, 3, none⟩ = some (.int .i64 cr.w) ∧ W.cell? ⟨w.heap.size, 4, none⟩ = some (.int .i64 cr.h) ∧ W.cell? ⟨w.heap.size, 5, none⟩ = some (.int .i64 cid) ∧ W.cell? ⟨w.heap.size, 6, none⟩ = some (.slice (some ⟨b, o, none⟩) t.kids.length ccap)) (exact HX.out _ _ (by first | with_reducible exact D0.out | with_reducible exact L3.out | with_reducible exact L4.out))
      (first
        | (go_at_call 38; (with_reducible refine (HSZ0.out _).mono ?_); rintro e w3 ⟨rfl, hb3⟩; have L3 := Lib.hid (D0.out.up hb3); clear hb3)
        | (go_at_call 37; (with_reducible refine (HEY.out _).mono ?_); rintro e w4 ⟨a4, cap4, rfl, ho4, hb4⟩; have L4 := Lib.hid (L3.out.up hb4); have O4 := Lib.hid ho4; clear ho4 hb4))
    rename_i hh9
    clear hh9
    obtain ⟨e4, o4, rfl, hfs⟩ := int_at O4.out.row (by have := HOK.out.1; rw [evL_len]; omega)
    have HFS := Lib.hid hfs
    have HB4 := Lib.hid (L4.out.below)
    have HE4 : Hid (w.heap.size + 2 ≤ e4) := Lib.hid (by
      have h1 := L3.out.more.size
      rcases O4.out.2 with ⟨h0, -⟩ | ⟨g', cap', cur', he, hbg, -⟩
      · cases h0
      · have e : e4 = g' := by injection he with q1 q2 q3; injection q1 with q1; injection q1
        have := HS0.out; omega)
    have HG4 := Lib.hid (HG.out.up L4.out.more)
    clear c0 c1 c2 c3 c4 c5 c6 hfs
    obtain ⟨c0, c1, c2, c3, c4, c5, c6⟩ := c7_of L4.out.box.cat
    have HES4 : Hid (w.heap.size < w4.heap.size) := Lib.hid (lt_of_block L4.out.box)
    have HX4 : Hid (Box7 w4 w.heap.size ⟨ck, cr, cid, some ⟨b, o, none⟩, t.kids.length, ccap⟩) := Lib.hid L4.out.box
    go_wp2
    have HKR0 : Hid (KR w w4 w4 (w.heap.size + 1) (.slice (some ⟨w.heap.size + 1, 0, none⟩) 0 0)) := Lib.hid ⟨HB4.out, World.grownBy.refl _ _, .inl rfl⟩
    go_loopg [4, 36] (t.kids.length + 1) (fun gg v i wr => ∃ (k : Nat) (cs : List C), gg + k = t.kids.length + 1 ∧ k ≤ t.kids.length ∧ i = .int .i64 k ∧ Grove (fun _ => True) wr w.heap.size v cs ((svL t).take k) ∧ KR w w4 wr (w.heap.size + 1) v ∧ ∀ (j : Nat) (u : T), j < k → t.kids[j]? = some u → ajE ax (svS t j) (setT 0 0 u) = 0)
    case atStart => exact ⟨0, [], by omega, by omega, rfl, HG4.out, HKR0.out, fun j u hj => by omega⟩
    case round =>
      clear c0 c1 c2 c3 c4 c5 c6
      obtain ⟨k, cs, hg, hk, rfl, hgr, hb, hno⟩ := hrel
      have HGG := Lib.hid hg
      have HGR := Lib.hid hgr
      have HBR := Lib.hid hb
      have HNO := Lib.hid hno
      have LR : Hid (KSt w ⟨ck, cr, cid, some ⟨b, o, none⟩, t.kids.length, ccap⟩ wr wr) := Lib.hid ⟨hb.below, Below.refl _ _, (hb.grown.block _ HES4.out (fun e => by injection e; omega)).trans HX4.out, by have := HES4.out; have := hb.grown.size; omega⟩
      clear hg hgr hb hno
      by_cases hlt : k < t.kids.length
      · have hlti : (k : Int) < (t.kids.length : Int) := by omega
        obtain ⟨u, hu⟩ : ∃ u, t.kids[k]? = some u := ⟨_, List.getElem?_eq_getElem hlt⟩
        obtain ⟨z, hz, hiz⟩ := HF.out k u hu
        have HU := Lib.hid hu
        have hsp := sv_kid (by have := HM.out; omega) HTT.out HK1.out (by rw [HSS.out]; exact HOK.out) hu
        rw [HSS.out, HAXK.out] at hsp
        have hsa := svS_at hu
        rw [HSS.out, HAXK.out] at hsa
        have hev := HFS.out k _ (evL_get hlt)
        have hur : u.r = z.r := hiz.split.2.1
        rw [hur] at hsp hsa
        obtain ⟨-, -, g1, g2, g3, g4, -⟩ := hsp
        have HST := Lib.hid (svL_step hu)
        rw [HAXK.out] at HST
        have HAJ := Lib.hid (fun (d : C) (W : World) (hI : Is W d (setT 0 0 u)) => radjust_any (setT 0 0 u) d ax (svS t k) W (by rw [setT_sz]; have := sz_kid hu; have := HM.out; omega) hI (by rw [hsa]; unfold fits; omega))
        have HZR := Lib.hid (fun W => rsize_any z.r ax W)
        generalize evZ S t.kids.length k = ev at hev hsa g1 g2
        generalize szA z.r ax = sx at hsa g3 g4 HZR
        have hws : IntKind.i64.wrap (ev - sx) = svS t k := by rw [hsa]; exact wrap_id (by omega)
        have HSET := Lib.hid (fun (W : World) (L : KSt w ⟨ck, cr, cid, some ⟨b, o, none⟩, t.kids.length, ccap⟩ wr W) => rset_any (sz u) u z 0 0 W (Nat.le_refl _) (by simp [fits]) (by simp [fits]) (hiz.up L.below))
        have hevr : wr.cell? ⟨e4, o4 + k, none⟩ = some (.int .i64 ev) := HBR.out.grown.cell hev (fun e => by have h1 := HE4.out; have h2 : e4 = w.heap.size + 1 := Option.some.inj e; omega)
        have HXR : Hid (∀ W, KSt w ⟨ck, cr, cid, some ⟨b, o, none⟩, t.kids.length, ccap⟩ wr W → W.cell? ⟨w.heap.size, 6, none⟩ = some (.slice (some ⟨b, o, none⟩) t.kids.length ccap) ∧ CellsT W b (o + k * 7) z ∧ W.cell? ⟨e4, o4 + k, none⟩ = some (.int .i64 ev)) := Lib.hid fun W L => ⟨(c7_of L.box.cat).2.2.2.2.2.2, hz.up L.below, (L.more.cell (lt_of_cell hevr)).trans hevr⟩
        obtain ⟨er, her⟩ : ∃ er, ajE ax (svS t k) (setT 0 0 u) = er := ⟨_, rfl⟩
        unfold AjSays at HAJ
        have HADK : Hid (∀ (d : C) (W : World), Is W d (setT 0 0 u) → Calls Tryz.prog 39 #[cval d, .int .u8 ax, .int .i64 (svS t k)] W (fun e w' => ∃ d', e = .returned (.tuple #[cval d', .int .i64 er]) ∧ Stands (fun _ => True) w' W.heap.size w'.heap.size d' (if er = 0 then ajT ax (svS t k) (setT 0 0 u) else noT) ∧ Below W.heap.size W w')) := Lib.hid fun d W hI => (HAJ.out d W hI).mono fun e w' h => by rw [her] at h; exact h
        obtain ⟨sb, hsb⟩ : ∃ sb, svS t k = sb := ⟨_, rfl⟩
        rw [hsb] at hws HADK her HST
        have HSBQ := Lib.hid hsb
        have HERR := Lib.hid her
        have HLC : Hid (cs.length ≤ 990) := Lib.hid (by
          have h1 := HGR.out.len
          rw [List.length_take] at h1
          have := HFN.out; omega)
        clear HAJ her hsa hev hevr g1 g2 g3 g4 hz hiz hu hur hsb
        obtain ⟨g9, hg9⟩ : ∃ g9, (if er = 0 then ajT ax sb (setT 0 0 u) else noT) = g9 := ⟨_, rfl⟩
        rw [hg9] at HADK
        have HG9 := Lib.hid hg9
        clear hg9
        have D1 : Hid (KSt w ⟨ck, cr, cid, some ⟨b, o, none⟩, t.kids.length, ccap⟩ wr wr.drew) := Lib.hid (LR.out.up (Below.refl _ _).drew)
        have Dz : Hid (KSt w ⟨ck, cr, cid, some ⟨b, o, none⟩, t.kids.length, ccap⟩ wr (wr.alloc zeroBox).drew) := Lib.hid (LR.out.up ((Below.refl _ _).alloc (Nat.le_refl _) _).drew)
        have Dy : Hid (KSt w ⟨ck, cr, cid, some ⟨b, o, none⟩, t.kids.length, ccap⟩ wr (wr.drew.alloc zeroBox)) := Lib.hid (kst_al D1.out _)
        have ZZ : Hid (ZK wr (wr.alloc zeroBox).drew wr.heap.size) := Lib.hid (zk_drew LR.out)
        have ZY : Hid (ZK wr (wr.drew.alloc zeroBox) wr.drew.heap.size) := Lib.hid (zk_new D1.out)
        obtain ⟨c0, c1, c2, c3, c4, c5, c6⟩ := c7_of LR.out.box.cat
        go_wp2_with fail
        go_region_held3 (fun W => W.cell? ⟨w.heap.size, 6, none⟩ = some (.slice (some ⟨b, o, none⟩) t.kids.length ccap) ∧ (W.cell? ⟨b, o + k * 7, none⟩ = some (.int .u8 z.k) ∧ W.cell? ⟨b, o + k * 7 + 1, none⟩ = some (.int .i64 z.r.x) ∧ W.cell? ⟨b, o + k * 7 + 2, none⟩ = some (.int .i64 z.r.y) ∧ W.cell? ⟨b, o + k * 7 + 3, none⟩ = some (.int .i64 z.r.w) ∧ W.cell? ⟨b, o + k * 7 + 4, none⟩ = some (.int .i64 z.r.h) ∧ W.cell? ⟨b, o + k * 7 + 5, none⟩ = some (.int .i64 z.id) ∧ W.cell? ⟨b, o + k * 7 + 6, none⟩ = some (.slice z.a z.n z.cap)) ∧ W.cell? ⟨e4, o4 + k, none⟩ = some (.int .i64 ev)) (exact HXR.out _ (by first | with_reducible exact D1.out | with_reducible exact Dz.out | with_reducible exact Dy.out | with_reducible exact L5.out | with_reducible exact kst_al L5.out _ | with_reducible exact L6.out | with_reducible exact kst_al L6.out _ | with_reducible exact L7.out | with_reducible exact kst_al L7.out _ | with_reducible exact P7.out))
          (first
            | (go_at_call 25; (with_reducible refine (HSET.out _ (by first | with_reducible exact D1.out | with_reducible exact Dz.out | with_reducible exact Dy.out)).mono ?_); rintro e w5 ⟨d5, S5, rfl, hown5, -, hb5⟩; have L5 := Lib.hid (KSt.up (by first | with_reducible exact D1.out | with_reducible exact Dz.out | with_reducible exact Dy.out) hb5); have I5 := Lib.hid hown5.is; (first | with_reducible have Z5 := Lib.hid (ZZ.out.up hb5) | with_reducible have Z5 := Lib.hid (ZY.out.up hb5) | have N5 := Lib.hid True.intro); clear hown5 hb5)
            | (go_at_call 38; (with_reducible refine (HZR.out _).mono ?_); rintro e w6 ⟨rfl, hb6⟩; have L6 := Lib.hid (KSt.up (by first | with_reducible exact L5.out | with_reducible exact kst_al L5.out _) hb6); have I6 := Lib.hid (Is.up (by first | with_reducible exact I5.out | with_reducible exact is_alK I5.out _) hb6); (first | with_reducible have Z6 := Lib.hid (Z5.out.up hb6) | with_reducible have Z6 := Lib.hid ((zk_new L5.out).up hb6) | have N6 := Lib.hid True.intro); clear hb6)
            | (go_at_call 39; (with_reducible refine (HADK.out _ _ (by first | with_reducible exact I6.out | with_reducible exact is_alK I6.out _)).mono ?_); rintro e w7 ⟨d7, rfl, hst7, hb7⟩; have L7 := Lib.hid (KSt.up (by first | with_reducible exact L6.out | with_reducible exact kst_al L6.out _) hb7); have S7 := Lib.hid hst7; (first | ((with_reducible have Z7 := Lib.hid (Z6.out.up hb7)); have M6 := Lib.hid L6.out; have ZM := Lib.hid Z6.out; have P7 := Lib.hid (kst_put L7.out Z7.out.2 d7); obtain ⟨⟨z0, z1, z2, z3, z4, z5, z6⟩, f0, f1, f2, f3, f4, f5, f6⟩ := zero_parts Z7.out.1) | ((with_reducible have Z7 := Lib.hid ((zk_new L6.out).up hb7)); have M6 := Lib.hid (kst_al L6.out zeroBox); have ZM := Lib.hid (zk_new L6.out); have P7 := Lib.hid (kst_put L7.out Z7.out.2 d7); obtain ⟨⟨z0, z1, z2, z3, z4, z5, z6⟩, f0, f1, f2, f3, f4, f5, f6⟩ := zero_parts Z7.out.1) | have M6 := Lib.hid L6.out); clear hst7 hb7))
        all_goals (rename_i hh9; clear hh9)
        all_goals first
          | (have P := Lib.hid (km_put L7.out M6.out Z7.out ZM.out S7.out); change Exit.then _ _ _ _ (put7 w7 _ d7); generalize put7 w7 _ d7 = W8 at P ⊢)
          | (have P := Lib.hid (km_new L7.out M6.out S7.out); generalize w7.alloc (cbox d7) = W8 at P ⊢)
        all_goals
          (try clear z0 z1 z2 z3 z4 z5 z6 f0 f1 f2 f3 f4 f5 f6)
          clear c0 c1 c2 c3 c4 c5 c6
          by_cases her0 : er = 0
          · subst her0
            have HG8 := Lib.hid (HG9.out.symm.trans (if_pos rfl))
            obtain ⟨q0, q1, q2, q3, q4, q5, q6⟩ := c7_of P.out.box.cat
            have AL : Hid (Below W8.heap.size W8 (W8.alloc (cbox d7))) := Lib.hid ((Below.refl _ _).alloc (Nat.le_refl _) _)
            go_wp2_with (at_builtin; refine wpList_append_cells rfl _ _ rfl w.heap.size u4 _ cs [d7] rfl ((HGR.out.row.up P.out.st.more).up AL.out) rfl (OwnC.one W8 0 (Nat.zero_le _) d7).row (by simp) (by have := HLC.out; simp only [List.length_cons, List.length_nil]; omega) w (P.out.st.below.trans (AL.out.mono P.out.st.below.size)) (Nat.le_refl _) ?_; intro g3 cap3 w3 hown3 hb3 hgr3 hpl3)
            have HF3 := Lib.hid (HGR.out.one P.out.st.more AL.out (Nat.le_of_lt LR.out.far) P.out.stands hown3 hgr3 hpl3)
            have HK3 := Lib.hid (HBR.out.step (n := (cs ++ [d7]).length) (cap := cap3) (P.out.st.more.trans (AL.out.mono P.out.st.more.size)) hgr3 hpl3 hb3)
            clear hown3 hb3 hgr3 hpl3 q0 q1 q2 q3 q4 q5 q6
            have e9 : wrap64 ((k : Int) + 1) = ((k + 1 : Nat) : Int) := by have := HFN.out; rw [← wrapE, wrap_id (by omega)]; omega
            go_wp2
            go_roundg (gk - 1)
            case measure => have := HGG.out; omega
            case rel =>
              refine ⟨k + 1, cs ++ [d7], by have := HGG.out; omega, by omega, by first | rfl | exact congrArg _ e9 | (rw [e9]) | (congr 1; omega) | (simp only [IntKind.wrap_i64, e9]), ?_, ?_, fun j v hj hv => ?_⟩
              · rw [HST.out, ← HG8.out]
                simpa using HF3.out
              · simpa using HK3.out
              · rcases Nat.lt_or_ge j k with h | h
                · exact HNO.out j v h hv
                · obtain rfl : j = k := by omega
                  rw [HU.out] at hv; cases hv
                  rw [HSBQ.out]; exact HERR.out
          · have d1 : (er != 0) = true := by simpa using her0
            have HSE : Hid (svE t = 7) := Lib.hid (svE_bad HK1.out (by rw [HSS.out]; exact HOK.out) ⟨k, u, HU.out, by rw [HAXK.out, HSBQ.out, HERR.out]; exact her0⟩)
            have GE := Lib.hid (Grove.empty (fun _ => True) W8 w.heap.size P.out.st.below.size)
            have BE := Lib.hid (P.out.st.below.alloc (o := .cells #[] 26) P.out.st.below.size)
            clear her0
            go_wp2
            go_ret2
            exact kn_err HSE.out (by decide) GE.out BE.out
      · obtain rfl : k = t.kids.length := by omega
        have hkl : ((t.kids.length : Int) < (t.kids.length : Int)) = False := by simp
        have HSE : Hid (svE t = 0) := Lib.hid (svE_ok HK1.out (by rw [HSS.out]; exact HOK.out) (fun ⟨j, u, hu, hn⟩ => hn (by rw [HAXK.out]; exact HNO.out j u (List.getElem?_eq_some_iff.1 hu).1 hu)))
        have HGF : Hid (Grove (fun _ => True) wr w.heap.size u4 cs (svL t)) := Lib.hid (by have := HGR.out; rw [List.take_of_length_le (by rw [svL_len]; omega)] at this; exact this)
        obtain ⟨c0, c1, c2, c3, c4, c5, c6⟩ := c7_of LR.out.box.cat
        go_wp2
        go_ret2
        exact kn_ok HSE.out HGF.out HBR.out.below
  · have HSE : Hid (svE t = 7) := Lib.hid (svE_none HK1.out (by rw [HSS.out]; exact hok))
    have HEN : Hid (∀ W, Calls Tryz.prog 37 #[.int .i64 S, .int .i64 (t.kids.length : Int)] W fun e w' => ∃ v, e = .returned (.tuple #[v, .bool false]) ∧ Below W.heap.size W w') := Lib.hid fun W => (HEV.out W).mono fun e w' h => evn_no h hok
    clear hok HEV
    obtain ⟨c0, c1, c2, c3, c4, c5, c6⟩ := c7_of L0.out.box.cat
    go_wp2_with fail
    go_region_held3 (fun W => W.cell? ⟨w.heap.size, 0, none⟩ = some (.int .u8 ck) ∧ W.cell? ⟨w.heap.size, 1, none⟩ = some (.int .i64 cr.x) ∧ W.cell? ⟨w.heap.size, 2, none⟩ = some (.int .i64 cr.y) ∧ W.cell? ⟨w.heap.size, 3, none⟩ = some (.int .i64 cr.w) ∧ W.cell? ⟨w.heap.size, 4, none⟩ = some (.int .i64 cr.h) ∧ W.cell? ⟨w.heap.size, 5, none⟩ = some (.int .i64 cid) ∧ W.cell? ⟨w.heap.size, 6, none⟩ = some (.slice (some ⟨b, o, none⟩) t.kids.length ccap)) (exact HX.out _ _ (by first | with_reducible exact D0.out | with_reducible exact L3.out | with_reducible exact L4.out))
      (first
        | (go_at_call 38; (with_reducible refine (HSZ0.out _).mono ?_); rintro e w3 ⟨rfl, hb3⟩; have L3 := Lib.hid (D0.out.up hb3); clear hb3)
        | (go_at_call 37; (with_reducible refine (HEN.out _).mono ?_); rintro e w4 ⟨v4, rfl, hb4⟩; have L4 := Lib.hid (L3.out.up hb4); clear hb4))
    rename_i hh9
    clear hh9
    have HG4 := Lib.hid (HG.out.up L4.out.more)
    go_wp2
    go_ret2
    exact kn_err HSE.out (by decide) HG4.out L4.out.below
end Go.Proofs.YtcdiogifgemjbaaGreat
/- A place in a tree of one's own, and what the tree is if another one stands there. -/
namespace Go.Proofs.YtcdiogifgemjbaaGreat
open Go.RowKit

def HasRow (w : World) (base : Nat) (y : C) : Prop := ∃ cs, OwnC w base (.slice y.a y.n y.cap) cs

structure PlaceAt (W : World) (base B : Nat) (t : T) (q : List Int) (b o : Nat) (u : T) (x : C) (S : List Nat) (cur : Array Value) : Prop where
  cat : CAt W b o x
  own : OwnT W base x u S
  nodup : S.Nodup
  out : b ∉ S
  ge : base ≤ b
  blk : W.heap[b]? = some (.cells cur 26 (0, 0))
  path : atT t q = some u
  ctx : ∀ (w' : World) (y : C) (u' : T), (∀ k, base ≤ k → k < W.heap.size → k ∉ S → k ≠ b → w'.heap[k]? = W.heap[k]?) → w'.heap[b]? = some (.cells (setO cur o y) 26 (0, 0)) → Is w' y u' → HasRow w' base y →
    ∃ z t', putT u' t q = some t' ∧ CAt w' B 0 z ∧ Is w' z t' ∧ HasRow w' base z
def Place (W : World) (base B : Nat) (t : T) (q : List Int) (b o : Nat) (u : T) : Prop := ∃ x S cur, PlaceAt W base B t q b o u x S cur

theorem place_top {W : World} {base B : Nat} {t : T} {x : C} {S : List Nat} (hx : Box7 W B x) (ho : OwnT W base x t S) (hn : S.Nodup) (hout : B ∉ S) (hge : base ≤ B) : Place W base B t [] B 0 t := by
  have hb : W.heap[B]? = some (cbox x) := hx
  refine ⟨x, S, _, hx.cat, ho, hn, hout, hge, hb, rfl, fun w' y u' _ hbl hi hr => ?_⟩
  exact ⟨y, u', rfl, cat_of_block hbl (by simp), hi, hr⟩

theorem OwnT.cases' {w : World} {base : Nat} {c : C} {t : T} {S : List Nat} (h : OwnT w base c t S) : ∃ (cs : List C) (Ss : List (List Nat)), OwnC w base (.slice c.a c.n c.cap) cs ∧ cs.length = t.kids.length ∧ Ss.length = t.kids.length ∧ c.fine ∧ t.k = c.k ∧ t.r = c.r ∧ t.id = c.id ∧ S = blk (.slice c.a c.n c.cap) ++ Ss.flatten ∧
    ∀ (j : Nat) (x : C) (u : T) (S' : List Nat), cs[j]? = some x → t.kids[j]? = some u → Ss[j]? = some S' → OwnT w base x u S' := by
  cases h with
  | mk c kids cs Ss fine row len slen each => exact ⟨cs, Ss, row, len, slen, fine, rfl, rfl, rfl, rfl, each⟩

/-- One step further. -/
theorem place_step {W : World} {base B : Nat} {t u u2 : T} {q : List Int} {b o : Nat} {j : Nat} (h : Place W base B t q b o u) (hk : u.kids[j]? = some u2) :
    ∃ (x : C) (g : Nat), CAt W b o x ∧ x.a = some ⟨g, 0, none⟩ ∧ x.n = u.kids.length ∧ Place W base B t (q ++ [(j : Int)]) g (j * 7) u2 := by
  obtain ⟨x, S, cur, h⟩ := h
  obtain ⟨cs, Ss, row, len, slen, fine, e1, e2, e3, rfl, each⟩ := h.own.cases'
  have hjl := (List.getElem?_eq_some_iff.1 hk).1
  have hxn : x.n = u.kids.length := h.own.is.n
  obtain ⟨g, cap, hv, hbg, hgl⟩ := row.form (by omega)
  have hxa : x.a = some ⟨g, 0, none⟩ := by injection hv
  have hjc : j < cs.length := by omega
  have hxc := List.getElem?_eq_getElem hjc
  have hSj := List.getElem?_eq_getElem (show j < Ss.length by omega)
  have hown2 := each j _ u2 _ hxc hk hSj
  have hkid : kidAt u (j : Int) = some u2 := by unfold kidAt; rw [if_pos (by omega)]; simpa using hk
  have hblk : blk (.slice x.a x.n x.cap) = [g] := by rw [hxa]; rfl
  have hgS : g ∈ blk (.slice x.a x.n x.cap) ++ Ss.flatten := List.mem_append_left _ (by rw [hblk]; simp)
  have hbne : b ≠ g := fun e => h.out (e ▸ hgS)
  have hnd := List.nodup_append.1 h.nodup
  have hgn : g ∉ Ss.flatten := fun hm => hnd.2.2 g (by rw [hblk]; simp) g hm rfl
  have hrow2 : OwnC W base (.slice (some ⟨g, 0, none⟩) x.n x.cap) cs := by rw [← hxa]; exact row
  obtain ⟨curg, hcurg⟩ : ∃ curg, W.heap[g]? = some (.cells curg 26 (0, 0)) := by
    rcases hrow2.2 with ⟨h0, -⟩ | ⟨g', cap', cur', he, _, hgg, _⟩
    · cases h0
    · have e : g = g' := by injection he with e1 e2 e3; injection e1 with e1; injection e1
      subst e; exact ⟨cur', hgg⟩
  have hcat : CAt W g (j * 7) cs[j] := cat_of_flat (hrow2.cells (g := g) rfl) j _ hxc
  refine ⟨x, g, h.cat, hxa, hxn, cs[j], Ss[j], curg, hcat, hown2, flat_one_nodup hnd.2.1 hSj, fun hm => hgn (mem_flat.2 ⟨j, _, hSj, hm⟩), hbg, hcurg, ?_, fun w' y u' hsame hbl hi hr => ?_⟩
  · rw [atT_append, h.path]
    simp only [atT, hkid]
  · have hrw : OwnC w' base (.slice x.a x.n x.cap) (cs.set j y) := by
      rw [hxa]
      exact own_put hrow2 hjc (by rw [hbl, putO_block hcurg y])
    have hbB : w'.heap[b]? = some (.cells (setO cur o x) 26 (0, 0)) := by
      rw [hsame b h.ge (lt_of_block h.blk) (fun hm => h.out (List.mem_append_right _ (mem_flat.2 ⟨j, _, hSj, hm⟩))) hbne, h.blk, setO_same h.blk h.cat]
    have hix : Is w' x (setKid u j u') := by
      unfold setKid
      rw [e1, e2, e3]
      refine .mk x (u.kids.set j u') (cs.set j y) hrw.row (by rw [List.length_set, List.length_set]; exact len) fine fun i a c' ha hc' => ?_
      by_cases hij : j = i
      · subst hij
        rw [List.getElem?_set_self hjc] at ha
        rw [List.getElem?_set_self hjl] at hc'
        cases ha; cases hc'
        exact hi
      · rw [List.getElem?_set_ne hij] at ha hc'
        have hil : i < Ss.length := by rw [slen]; exact (List.getElem?_eq_some_iff.1 hc').1
        have hSi := List.getElem?_eq_getElem hil
        have hoi := each i a c' _ ha hc' hSi
        refine (hoi.frame fun m hm => hsame m (hoi.ge m hm).1 (hoi.ge m hm).2 (fun hmj => hij ?_) (fun e => hgn (mem_flat.2 ⟨i, _, hSi, e ▸ hm⟩))).is
        exact (flat_disj hnd.2.1 hSi hSj hm hmj).symm
    obtain ⟨z, t', hp, hz⟩ := h.ctx w' x (setKid u j u') (fun m hm0 hm hmS hmb => hsame m hm0 hm (fun hmj => hmS (List.mem_append_right _ (mem_flat.2 ⟨j, _, hSj, hmj⟩))) (fun e => hmS (e ▸ hgS))) hbB hix ⟨_, hrw⟩
    exact ⟨z, t', by rw [put_append h.path hkid]; exact hp, hz⟩
theorem cat_inj {w : World} {b o : Nat} {c d : C} (h : CAt w b o c) (g : CAt w b o d) : c = d := by
  obtain ⟨h0, h1, h2, h3, h4, h5, h6⟩ := h
  obtain ⟨g0, g1, g2, g3, g4, g5, g6⟩ := g
  obtain ⟨ck, ⟨x, y, z, v⟩, ci, ca, cn, cc⟩ := c
  obtain ⟨dk, ⟨x', y', z', v'⟩, di, da, dn, dc⟩ := d
  simp only at *
  rw [h0] at g0; rw [h1] at g1; rw [h2] at g2; rw [h3] at g3; rw [h4] at g4; rw [h5] at g5; rw [h6] at g6
  cases g0; cases g1; cases g2; cases g3; cases g4; cases g5; cases g6
  rfl
end Go.Proofs.YtcdiogifgemjbaaGreat
