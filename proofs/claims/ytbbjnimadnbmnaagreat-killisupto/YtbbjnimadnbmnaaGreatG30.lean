/- Texts of this seat, 3 in one file. -/
import Derived.Test.YtbbjnimadnbmnaaGreatG25
import Derived.Test.YtbbjnimadnbmnaaGreatG29
import Derived.Test.YtbbjnimadnbmnaaGreatG28
import Derived.Test.YtbbjnimadnbmnaaGreatG24
import Derived.Test.YtbbjnimadnbmnaaGreatG21
import Derived.Test.YtbbjnimadnbmnaaGreatG05
import Derived.Test.YtbbjnimadnbmnaaGreatG23
import Derived.Deep.RegionLaw
/- A leaf is split: the document's answer. -/
namespace Go.Proofs.YtbbjnimadnbmnaaGreat
open Go.RowKit

theorem sp_err {t : T} {id ax z fresh : Int} {ahead : Bool} {kind : IntKind} {w w' : World} {n : Int} (hn : spE t id ax z fresh ahead = n) (h0 : n ≠ 0) (hb : Below w.heap.size w w') : SpSays t id ax z fresh ahead kind w (.returned (.tuple #[cval noC, .int kind n])) w' := by
  subst hn
  exact ⟨noC, rfl, by rw [if_neg h0]; exact no_is w', hb⟩
theorem sp_ok {t t' : T} {id ax z fresh : Int} {ahead : Bool} {kind : IntKind} {w w' : World} {d : C} (hn : spE t id ax z fresh ahead = 0) (ht : spT t id ax z fresh ahead = t') (hi : Is w' d t') (hb : Below w.heap.size w w') : SpSays t id ax z fresh ahead kind w (.returned (.tuple #[cval d, .int kind 0])) w' := by
  subst ht
  exact ⟨d, by rw [hn], by rw [if_pos hn]; exact hi, hb⟩
theorem sp_arg {t : T} {id ax z fresh : Int} {ahead : Bool} (h : ¬ (tileB t = true ∧ axB ax = true ∧ 0 ≤ z ∧ 0 ≤ fresh ∧ fresh ≤ 2147483647)) : spE t id ax z fresh ahead = 1 := if_neg h
theorem sp_dup {t : T} {id ax z fresh : Int} {ahead : Bool} (h : tileB t = true ∧ axB ax = true ∧ 0 ≤ z ∧ 0 ≤ fresh ∧ fresh ≤ 2147483647) (hf : (lfF fresh t).isSome = true) : spE t id ax z fresh ahead = 1 := by
  unfold spE; rw [if_pos h, if_pos hf]
theorem sp_none {t : T} {id ax z fresh : Int} {ahead : Bool} (h : tileB t = true ∧ axB ax = true ∧ 0 ≤ z ∧ 0 ≤ fresh ∧ fresh ≤ 2147483647) (hf : (lfF fresh t).isSome = false) (hl : lfF id t = none) : spE t id ax z fresh ahead = 6 := by
  unfold spE; rw [if_pos h, if_neg (by rw [hf]; decide), hl]
theorem sp_some {t u : T} {id ax z fresh : Int} {ahead : Bool} (h : tileB t = true ∧ axB ax = true ∧ 0 ≤ z ∧ 0 ≤ fresh ∧ fresh ≤ 2147483647) (hf : (lfF fresh t).isSome = false) (hl : lfF id t = some u) :
    spE t id ax z fresh ahead = if szA u.r ax < 3 then 7 else if 20000 < sz (inT id ax (bothT u ax z fresh ahead) t) then 8 else 0 := by
  unfold spE; rw [if_pos h, if_neg (by rw [hf]; decide), hl]
theorem lf_leaf {id : Int} {t u : T} (h : lfF id t = some u) : u.k = 1 ∧ u.id = id ∧ u ∈ preT t := by
  have h1 := List.find?_some h
  have h2 := List.mem_of_find?_eq_some h
  rw [List.mem_filter] at h2
  refine ⟨?_, ?_, h2.1⟩
  · have := h2.2; unfold leafB at this; simpa using this
  · unfold lfB at h1; simpa using h1

/-- What the call keeps: its tree's box, its answer's, an empty one. -/
abbrev startW (w : World) (c : C) : World := ((w.alloc (cbox c)).alloc zeroBox).alloc zeroBox
structure LSt (w : World) (c : C) (W : World) : Prop where
  below : Below w.heap.size w W
  box : Box7 W w.heap.size c
  zero : Zero7 W (w.heap.size + 1)
  none : Box7 W (w.heap.size + 2) noC
theorem LSt.up {w W W' : World} {c : C} (h : LSt w c W) (hb : Below W.heap.size W W') : LSt w c W' := ⟨h.below.trans (hb.mono h.below.size), h.box.up hb, zero_up h.zero hb, h.none.up hb⟩
theorem LSt.start (w : World) (c : C) : LSt w c (startW w c) := by
  have h1 := cellW_below w c
  have h2 : Below (cellW w c).heap.size (cellW w c) (startW w c) := (Below.refl _ _).alloc (Nat.le_refl _) _
  refine ⟨h1.trans (h2.mono h1.size), (cellW_box w c).up h2, zero_up (cellW_zero w c) h2, ?_⟩
  have := zero_new (cellW w c)
  rw [cellW_size] at this
  exact this
theorem LSt.is {w W : World} {c : C} {t : T} (h : LSt w c W) (hi : Is w c t) : Is W c t := hi.up h.below

structure L2 (w : World) (c : C) (b : Nat) (lc : C) (W : World) : Prop where
  st : LSt w c W
  leaf : Box7 W b lc
theorem L2.up {w W W' : World} {c lc : C} {b : Nat} (h : L2 w c b lc W) (hb : Below W.heap.size W W') : L2 w c b lc W' := ⟨h.st.up hb, h.leaf.up hb⟩
abbrev C14 (b : Nat) (c : C) (b2 : Nat) (d : C) (W : World) : Prop := (W.cell? ⟨b, 0, none⟩ = some (.int .u8 c.k) ∧ W.cell? ⟨b, 1, none⟩ = some (.int .i64 c.r.x) ∧ W.cell? ⟨b, 2, none⟩ = some (.int .i64 c.r.y) ∧ W.cell? ⟨b, 3, none⟩ = some (.int .i64 c.r.w) ∧ W.cell? ⟨b, 4, none⟩ = some (.int .i64 c.r.h) ∧ W.cell? ⟨b, 5, none⟩ = some (.int .i64 c.id) ∧ W.cell? ⟨b, 6, none⟩ = some (.slice c.a c.n c.cap)) ∧ W.cell? ⟨b2, 0, none⟩ = some (.int .u8 d.k) ∧ W.cell? ⟨b2, 1, none⟩ = some (.int .i64 d.r.x) ∧ W.cell? ⟨b2, 2, none⟩ = some (.int .i64 d.r.y) ∧ W.cell? ⟨b2, 3, none⟩ = some (.int .i64 d.r.w) ∧ W.cell? ⟨b2, 4, none⟩ = some (.int .i64 d.r.h) ∧ W.cell? ⟨b2, 5, none⟩ = some (.int .i64 d.id) ∧ W.cell? ⟨b2, 6, none⟩ = some (.slice d.a d.n d.cap)
theorem L2.c14 {w W : World} {c lc : C} {b : Nat} (h : L2 w c b lc W) : C14 w.heap.size c b lc W := ⟨c7_of h.st.box.cat, c7_of h.leaf.cat⟩
theorem c14_alloc {b b2 : Nat} {c d : C} {W : World} (h : C14 b c b2 d W) (o : Obj) : C14 b c b2 d (W.alloc o) := by
  have hb : Below W.heap.size W (W.alloc o) := (Below.refl _ _).alloc (Nat.le_refl _) _
  obtain ⟨⟨a0, a1, a2, a3, a4, a5, a6⟩, b0, b1, b2, b3, b4, b5, b6⟩ := h
  exact ⟨⟨(hb.cell (lt_of_cell a0)).trans a0, (hb.cell (lt_of_cell a1)).trans a1, (hb.cell (lt_of_cell a2)).trans a2, (hb.cell (lt_of_cell a3)).trans a3, (hb.cell (lt_of_cell a4)).trans a4, (hb.cell (lt_of_cell a5)).trans a5, (hb.cell (lt_of_cell a6)).trans a6⟩, (hb.cell (lt_of_cell b0)).trans b0, (hb.cell (lt_of_cell b1)).trans b1, (hb.cell (lt_of_cell b2)).trans b2, (hb.cell (lt_of_cell b3)).trans b3, (hb.cell (lt_of_cell b4)).trans b4, (hb.cell (lt_of_cell b5)).trans b5, (hb.cell (lt_of_cell b6)).trans b6⟩

theorem c14_put7 {b b2 k : Nat} {c d x : C} {W : World} (h : C14 b c b2 d W) (h1 : b ≠ k) (h2 : b2 ≠ k) : C14 b c b2 d (put7 W k x) := by
  have g1 : ∀ o, (put7 W k x).cell? ⟨b, o, none⟩ = W.cell? ⟨b, o, none⟩ := fun o => World.cell?_of_block (a := ⟨b, o, none⟩) (heap_put7 h1)
  have g2 : ∀ o, (put7 W k x).cell? ⟨b2, o, none⟩ = W.cell? ⟨b2, o, none⟩ := fun o => World.cell?_of_block (a := ⟨b2, o, none⟩) (heap_put7 h2)
  obtain ⟨⟨a0, a1, a2, a3, a4, a5, a6⟩, b0, b1, b2, b3, b4, b5, b6⟩ := h
  exact ⟨⟨(g1 _).trans a0, (g1 _).trans a1, (g1 _).trans a2, (g1 _).trans a3, (g1 _).trans a4, (g1 _).trans a5, (g1 _).trans a6⟩, (g2 _).trans b0, (g2 _).trans b1, (g2 _).trans b2, (g2 _).trans b3, (g2 _).trans b4, (g2 _).trans b5, (g2 _).trans b6⟩

/-- Split, done: the whole tree in a box. -/
structure Mid (w : World) (c : C) (b : Nat) (d : C) (t' : T) (W : World) : Prop where
  st : LSt w c W
  cat : CAt W b 0 d
  is : Is W d t'
theorem Mid.up {w W W' : World} {c d : C} {b : Nat} {t' : T} (h : Mid w c b d t' W) (hb : Below W.heap.size W W') : Mid w c b d t' W' := ⟨h.st.up hb, h.cat.up hb, h.is.up hb⟩
theorem mid_new {w W : World} {c d : C} {t' : T} (h : LSt w c W) (hi : Is W d t') : Mid w c W.heap.size d t' (W.alloc (cbox d)) :=
  have hb : Below W.heap.size W (W.alloc (cbox d)) := (Below.refl _ _).alloc (Nat.le_refl _) _
  ⟨h.up hb, by simpa using cbox_new W d, hi.up hb⟩
/-- What stands: the elder memory, and the row of both. -/
def SpE (w : World) (v : Value) (ps : List C) (W : World) : Prop := Eld w W ∧ CRow W v ps
theorem spE_mk {w W : World} {base : Nat} {v : Value} {ps : List C} (h1 : Below w.heap.size w W) (h2 : OwnC W base v ps) : SpE w v ps W := ⟨Eld.of h1, h2.row⟩
theorem SpE.up {w : World} {v : Value} {ps : List C} : ∀ W W' : World, SpE w v ps W → Below W.heap.size W W' → SpE w v ps W' := fun _ _ h hb => ⟨h.1.up hb, h.2.up hb⟩
theorem mid_put {w W : World} {c d : C} {b lo hi base : Nat} {t' : T} {v : Value} {ps : List C} (h : LSt w c W) (hs : Stands (SpE w v ps) W lo hi d t') (hz : Zero7 W b) (h2 : w.heap.size + 2 < b) (hlo : b < lo) (hrow : OwnC W base v ps) (hne : ∀ g, v.ownBlock = some g → g ≠ b) : Mid w c b d t' (put7 W b d) := by
  have hsm : ∀ k, k ≠ b → (put7 W b d).heap[k]? = W.heap[k]? := fun k hk => heap_put7 hk
  refine ⟨⟨below_put7 h.below (by omega) d, (hsm _ (by omega)).trans h.box, (hsm _ (by omega)).trans h.zero, (hsm _ (by omega)).trans h.none⟩, ((Box7.of_zero hz).put d).cat, ?_⟩
  refine hs _ ⟨fun k hk => (hsm k (by omega)).trans (h.below.block k hk), (ownC_kept hrow fun g hg => hsm g (hne g hg)).row⟩ fun k hk _ => hsm k (by omega)

theorem ltA {a b : Nat} (h : a + 2 < b) : a < b := by omega
theorem two_shape {w : World} {base : Nat} {v : Value} {r : R} {id ax a b fresh : Int} {ahead : Bool} (h : OwnC w base v (twoC r id ax a b fresh ahead)) : ∃ va vcap, v = .slice va 2 vcap := by
  obtain ⟨va, vcap, hv⟩ := h.row.shape
  rw [twoC_len] at hv
  exact ⟨va, vcap, hv⟩
theorem own2_lt {W : World} {base cap : Nat} {a : Option Addr} {ps : List C} (h : OwnC W base (.slice a 2 cap) ps) : base < W.heap.size := by
  rcases h.2 with ⟨h1, -⟩ | ⟨g, cap', cur, h1, hb, hg, -⟩
  · cases h1
  · have := lt_of_block hg; omega
theorem mid_a {w W W11 W6 : World} {c d : C} {t' : T} {v : Value} {ps : List C} {base : Nat} (h : LSt w c W) (hs : Stands (SpE w v ps) W W11.heap.size W.heap.size d t') (hz : Zero7 W W6.heap.size) (h2 : w.heap.size + 2 < W6.heap.size) (hlo : W6.heap.size < W11.heap.size) (hrow : OwnC W base v ps) (hbase : W6.heap.size < base) : Mid w c W6.heap.size d t' (put7 W W6.heap.size d) :=
  mid_put h hs hz h2 hlo hrow fun g hg => by have := own_block hrow hg; omega
theorem mid_b {w W W11 : World} {c d : C} {t' : T} {v : Value} {ps : List C} {base : Nat} (h : LSt w c W) (hs : Stands (SpE w v ps) W (W11.alloc zeroBox).heap.size W.heap.size d t') (hz : Zero7 W W11.heap.size) (h2 : w.heap.size + 2 < W11.heap.size) (hrow1 : OwnC W11 base v ps) (hrow : OwnC W base v ps) : Mid w c W11.heap.size d t' (put7 W W11.heap.size d) :=
  mid_put h hs hz h2 (by simp) hrow fun g hg => by have := own_block hrow1 hg; omega

end Go.Proofs.YtbbjnimadnbmnaaGreat
/- Adjust: the document's answer. -/
namespace Go.Proofs.YtbbjnimadnbmnaaGreat
open Go.RowKit

/-- What the call keeps: its tree's box, its answer's. -/
structure ASt (w : World) (c : C) (W : World) : Prop where
  below : Below w.heap.size w W
  box : Box7 W w.heap.size c
  zero : Zero7 W (w.heap.size + 1)
theorem ASt.up {w W W' : World} {c : C} (h : ASt w c W) (hb : Below W.heap.size W W') : ASt w c W' := ⟨h.below.trans (hb.mono h.below.size), h.box.up hb, zero_up h.zero hb⟩
theorem ASt.start (w : World) (c : C) : ASt w c (cellW w c) := ⟨cellW_below w c, cellW_box w c, cellW_zero w c⟩
theorem ASt.is {w W : World} {c : C} {t : T} (h : ASt w c W) (hi : Is w c t) : Is W c t := hi.up h.below
theorem c7_up {b : Nat} {c : C} {W W' : World} (h : C7 b c W) (hb : Below W.heap.size W W') : C7 b c W' := by
  obtain ⟨a0, a1, a2, a3, a4, a5, a6⟩ := h
  exact ⟨(hb.cell (lt_of_cell a0)).trans a0, (hb.cell (lt_of_cell a1)).trans a1, (hb.cell (lt_of_cell a2)).trans a2, (hb.cell (lt_of_cell a3)).trans a3, (hb.cell (lt_of_cell a4)).trans a4, (hb.cell (lt_of_cell a5)).trans a5, (hb.cell (lt_of_cell a6)).trans a6⟩
theorem c7_put7 {b k : Nat} {c x : C} {W : World} (h : C7 b c W) (h1 : b ≠ k) : C7 b c (put7 W k x) := by
  have g1 : ∀ o, (put7 W k x).cell? ⟨b, o, none⟩ = W.cell? ⟨b, o, none⟩ := fun o => World.cell?_of_block (a := ⟨b, o, none⟩) (heap_put7 h1)
  obtain ⟨a0, a1, a2, a3, a4, a5, a6⟩ := h
  exact ⟨(g1 _).trans a0, (g1 _).trans a1, (g1 _).trans a2, (g1 _).trans a3, (g1 _).trans a4, (g1 _).trans a5, (g1 _).trans a6⟩
/-- The answer's box is written: what stands behind it still does. -/
theorem stands_put {w W W0 : World} {c d : C} {base : Nat} {t : T} {S : List Nat} (h : ASt w c W) (ho : OwnT W base d t S) (hb : base = W0.heap.size) (hlt : w.heap.size + 1 < W0.heap.size) :
    Stands (fun _ => True) (put7 W (w.heap.size + 1) d) w.heap.size (put7 W (w.heap.size + 1) d).heap.size d t := by
  rw [size_put7]
  refine (ho.stands.move (w2 := put7 W (w.heap.size + 1) d) fun k hk _ => heap_put7 (by omega)).wide (by omega) (Nat.le_refl _)

set_option maxHeartbeats 4000000 in
set_option maxRecDepth 100000 in
theorem radjust_arg (t : T) (c : C) (ax b : Int) (w : World) (hm : sz t ≤ 990) (hi : Is w c t) (hn : ¬ (tileB t = true ∧ axB ax = true)) : Calls Tryz.prog 37 #[cval c, .int .u8 ax, .int .i64 b] w (AjSays ax b t .i64 w) := by
  have L0 := Lib.hid (ASt.start w c)
  have HE := Lib.hid (aj_arg (b := b) hn)
  have HT := Lib.hid (rtiles8_any t c (cellW w c) (L0.out.is hi) (by omega))
  have hcase : tileB t = false ∨ (tileB t = true ∧ decide (ax < 1) = true) ∨ (tileB t = true ∧ decide (ax < 1) = false ∧ decide (2 < ax) = true) := by
    cases h1 : tileB t with
    | false => exact .inl rfl
    | true =>
      rcases ax_test2 (ax := ax) (by cases h2 : axB ax with | false => rfl | true => exact absurd ⟨h1, h2⟩ hn) with h | h
      · exact .inr (.inl ⟨rfl, h⟩)
      · exact .inr (.inr ⟨rfl, h⟩)
  clear hi hm hn
  obtain ⟨c0, c1, c2, c3, c4, c5, c6⟩ := c7_of L0.out.box.cat
  rcases hcase with h1 | ⟨h1, d1⟩ | ⟨h1, d1, d2⟩
  all_goals
    rw [h1] at HT
    go_enter Tryz.func37, Tryz.ntmps37
    go_wp2_with fail
    refine HT.out.mono ?_
    rintro e w1 ⟨rfl, hb1⟩
    have L1 := Lib.hid (L0.out.up hb1)
    clear hb1
    obtain ⟨⟨z0, z1, z2, z3, z4, z5, z6⟩, f0, f1, f2, f3, f4, f5, f6⟩ := zero_parts L1.out.zero
    go_wp2
    (try simp only [Exit.inBlock, Exit.then])
    refine bodyPost_ret (results_c2 rfl _ _ (w.heap.size + 1) noC rfl ((Box7.of_zero L1.out.zero).put noC)) rfl ?_
    exact aj_err HE.out (by decide) (below_put7 L1.out.below (by omega) noC)

set_option maxHeartbeats 4000000 in
set_option maxRecDepth 100000 in
theorem radjust1_any (t : T) (c : C) (b : Int) (w : World) (hm : sz t ≤ 990) (hi : Is w c t) (hb : fits b) (ht : tileB t = true) : Calls Tryz.prog 37 #[cval c, .int .u8 1, .int .i64 b] w (AjSays 1 b t .i64 w) := by
  have L0 := Lib.hid (ASt.start w c)
  have HT := Lib.hid (rtiles8_any t c (cellW w c) (L0.out.is hi) (by omega))
  rw [ht] at HT
  have HE := Lib.hid (aj_do (ax := 1) (b := b) ⟨ht, rfl⟩)
  have hw := may_rect (well_rect (tile_top (by omega) ht).1)
  have hls := ls_pos 1 t
  have hls2 : lsT 1 t ≤ 40000 := by have := ls_sz 1 t; omega
  have htr := hi.split.2.1
  rw [htr] at hw HE
  have HST : Hid (ajT 1 b t = setT c.r.x c.r.y (adjT 1 b t)) := Lib.hid (by unfold ajT; rw [htr])
  have HCF := Lib.hid hi.fine.2.1
  have HSZ := Lib.hid (rsize_any c.r 1)
  have HOF := Lib.hid (fun W (h : Is W c t) => rof_any 1 (sz t) t c W (Nat.le_refl _) (by omega) h)
  have HCAN := Lib.hid (aj_can (ax := 1) (b := b) (t := t))
  rw [htr] at HCAN
  have HI := Lib.hid hi
  have HM := Lib.hid hm
  have HTT := Lib.hid ht
  obtain ⟨hb1, hb2⟩ := hb
  have hat : atA c.r 1 = c.r.x := rfl
  have hsz : szA c.r 1 = c.r.w := rfl
  rw [hat, hsz] at HE HCAN
  rw [hsz] at HSZ
  generalize hls0 : lsT 1 t = m at HE HCAN HOF hls hls2
  clear hi hm ht htr hat hsz hls0
  obtain ⟨c0, c1, c2, c3, c4, c5, c6⟩ := c7_of L0.out.box.cat
  go_enter Tryz.func37, Tryz.ntmps37
  go_wp2_with fail
  refine HT.out.mono ?_
  rintro e w1 ⟨rfl, hb1'⟩
  have L1 := Lib.hid (L0.out.up hb1')
  clear hb1' c0 c1 c2 c3 c4 c5 c6 HT
  obtain ⟨c0, c1, c2, c3, c4, c5, c6⟩ := c7_of L1.out.box.cat
  go_wp2_with fail
  refine (HSZ.out w1).mono ?_
  rintro e w2 ⟨rfl, hb2'⟩
  have L2 := Lib.hid (L1.out.up hb2')
  clear hb2' c0 c1 c2 c3 c4 c5 c6 L1
  obtain ⟨c0, c1, c2, c3, c4, c5, c6⟩ := c7_of L2.out.box.cat
  by_cases g1 : 10000 < b
  · have d1 : decide (10000 < b) = true := decide_eq_true g1
    have HE9 := Lib.hid (HE.out.trans (if_pos (.inl g1)))
    clear g1
    obtain ⟨⟨z0, z1, z2, z3, z4, z5, z6⟩, f0, f1, f2, f3, f4, f5, f6⟩ := zero_parts L2.out.zero
    go_wp2
    (try simp only [Exit.inBlock, Exit.then])
    refine bodyPost_ret (results_c2 rfl _ _ (w.heap.size + 1) noC rfl ((Box7.of_zero L2.out.zero).put noC)) rfl ?_
    exact aj_err HE9.out (by decide) (below_put7 L2.out.below (by omega) noC)
  have d1 : decide (10000 < b) = false := decide_eq_false g1
  by_cases g2 : b < -10000
  · have d2 : decide (b < -10000) = true := decide_eq_true g2
    have HE9 := Lib.hid (HE.out.trans (if_pos (.inr (.inl g2))))
    clear g1 g2
    obtain ⟨⟨z0, z1, z2, z3, z4, z5, z6⟩, f0, f1, f2, f3, f4, f5, f6⟩ := zero_parts L2.out.zero
    go_wp2
    (try simp only [Exit.inBlock, Exit.then])
    refine bodyPost_ret (results_c2 rfl _ _ (w.heap.size + 1) noC rfl ((Box7.of_zero L2.out.zero).put noC)) rfl ?_
    exact aj_err HE9.out (by decide) (below_put7 L2.out.below (by omega) noC)
  have d2 : decide (b < -10000) = false := decide_eq_false g2
  have hw1 : IntKind.i64.wrap (c.r.x + c.r.w) = c.r.x + c.r.w := wrap_id (by omega)
  have hw2 : IntKind.i64.wrap (c.r.x + c.r.w + b) = c.r.x + c.r.w + b := wrap_id (by omega)
  have hw3 : IntKind.i64.wrap (c.r.w + b) = c.r.w + b := wrap_id (by omega)
  by_cases g3 : 10000 < c.r.x + c.r.w + b
  · have d3 : decide (10000 < c.r.x + c.r.w + b) = true := decide_eq_true g3
    have HE9 := Lib.hid (HE.out.trans (if_pos (.inr (.inr (.inl g3)))))
    clear g1 g2 g3
    obtain ⟨⟨z0, z1, z2, z3, z4, z5, z6⟩, f0, f1, f2, f3, f4, f5, f6⟩ := zero_parts L2.out.zero
    go_wp2
    (try simp only [Exit.inBlock, Exit.then])
    refine bodyPost_ret (results_c2 rfl _ _ (w.heap.size + 1) noC rfl ((Box7.of_zero L2.out.zero).put noC)) rfl ?_
    exact aj_err HE9.out (by decide) (below_put7 L2.out.below (by omega) noC)
  have d3 : decide (10000 < c.r.x + c.r.w + b) = false := decide_eq_false g3
  have HGO := Lib.hid (show ¬ (10000 < b) ∧ ¬ (b < -10000) ∧ ¬ (10000 < c.r.x + c.r.w + b) from ⟨g1, g2, g3⟩)
  clear g1 g2 g3
  go_wp2_with fail
  refine (HOF.out w2 (L2.out.is HI.out)).mono ?_
  rintro e w3 ⟨rfl, hb3'⟩
  have L3 := Lib.hid (L2.out.up hb3')
  clear hb3' c0 c1 c2 c3 c4 c5 c6 L2
  by_cases g4 : c.r.w + b < m
  · have d4 : decide (c.r.w + b < m) = true := decide_eq_true g4
    have HE9 := Lib.hid (HE.out.trans (if_pos (.inr (.inr (.inr g4)))))
    clear g4
    obtain ⟨⟨z0, z1, z2, z3, z4, z5, z6⟩, f0, f1, f2, f3, f4, f5, f6⟩ := zero_parts L3.out.zero
    go_wp2
    (try simp only [Exit.inBlock, Exit.then])
    refine bodyPost_ret (results_c2 rfl _ _ (w.heap.size + 1) noC rfl ((Box7.of_zero L3.out.zero).put noC)) rfl ?_
    exact aj_err HE9.out (by decide) (below_put7 L3.out.below (by omega) noC)
  · have d4 : decide (c.r.w + b < m) = false := decide_eq_false g4
    have hno : ¬ (10000 < b ∨ b < -10000 ∨ 10000 < c.r.x + c.r.w + b ∨ c.r.w + b < m) := by have := HGO.out; omega
    have HE9 := Lib.hid (HE.out.trans (if_neg hno))
    have hcan := HCAN.out hno
    have D3 : Hid (ASt w c w3.drew) := Lib.hid (L3.out.up (Below.refl _ _).drew)
    have X3 := Lib.hid (c7_of D3.out.box.cat)
    have HAD := Lib.hid (radj1_any (sz t) t c b w3.drew (Nat.le_refl _) HM.out HTT.out hcan (D3.out.is HI.out))
    have HSET := Lib.hid (fun (d : C) (W : World) (h : Is W d (adjT 1 b t)) => rset_any (sz (adjT 1 b t)) (adjT 1 b t) d c.r.x c.r.y W (Nat.le_refl _) HCF.out.1 HCF.out.2.1 h)
    clear hno g4 hcan HE HCAN
    generalize adjT 1 b t = t' at HAD HSET HST
    go_wp2_with fail
    go_region_held3 (fun W => W.cell? ⟨w.heap.size, 0, none⟩ = some (.int .u8 c.k) ∧ W.cell? ⟨w.heap.size, 1, none⟩ = some (.int .i64 c.r.x) ∧ W.cell? ⟨w.heap.size, 2, none⟩ = some (.int .i64 c.r.y) ∧ W.cell? ⟨w.heap.size, 3, none⟩ = some (.int .i64 c.r.w) ∧ W.cell? ⟨w.heap.size, 4, none⟩ = some (.int .i64 c.r.h) ∧ W.cell? ⟨w.heap.size, 5, none⟩ = some (.int .i64 c.id) ∧ W.cell? ⟨w.heap.size, 6, none⟩ = some (.slice c.a c.n c.cap)) (first | with_reducible exact X3.out | with_reducible exact X4.out | with_reducible exact X5.out | with_reducible exact X6.out)
      (first
        | (go_at_call 61; (with_reducible refine HAD.out.mono ?_); rintro e w4 ⟨d4, rfl, hst4, hb4⟩; have L4 := Lib.hid (D3.out.up hb4); have X4 := Lib.hid (c7_of L4.out.box.cat); have I4 := Lib.hid (hst4.is trivial); clear hst4 hb4)
        | (go_at_call 17; (with_reducible refine (HSET.out d4 w4 I4.out).mono ?_); rintro e w5 ⟨d5, S5, rfl, hown5, -, hb5⟩; have L5 := Lib.hid (L4.out.up hb5); have X5 := Lib.hid (c7_of L5.out.box.cat); have O5 := Lib.hid hown5; have X6 := Lib.hid (c7_put7 (k := w.heap.size + 1) (x := d5) X5.out (by omega)); obtain ⟨⟨z0, z1, z2, z3, z4, z5, z6⟩, f0, f1, f2, f3, f4, f5, f6⟩ := zero_parts L5.out.zero; clear hown5 hb5))
    go_wp2
    (try simp only [Exit.inBlock, Exit.then])
    refine bodyPost_ret (results_c2 rfl _ _ (w.heap.size + 1) d5 rfl ((Box7.of_zero L5.out.zero).put d5)) rfl ?_
    exact aj_ok HE9.out HST.out (stands_put L5.out O5.out rfl (lt_of_block L4.out.zero)) (below_put7 L5.out.below (by omega) d5)

set_option maxHeartbeats 4000000 in
set_option maxRecDepth 100000 in
theorem radjust2_any (t : T) (c : C) (b : Int) (w : World) (hm : sz t ≤ 990) (hi : Is w c t) (hb : fits b) (ht : tileB t = true) : Calls Tryz.prog 37 #[cval c, .int .u8 2, .int .i64 b] w (AjSays 2 b t .i64 w) := by
  have L0 := Lib.hid (ASt.start w c)
  have HT := Lib.hid (rtiles8_any t c (cellW w c) (L0.out.is hi) (by omega))
  rw [ht] at HT
  have HE := Lib.hid (aj_do (ax := 2) (b := b) ⟨ht, rfl⟩)
  have hw := may_rect (well_rect (tile_top (by omega) ht).1)
  have hls := ls_pos 2 t
  have hls2 : lsT 2 t ≤ 40000 := by have := ls_sz 2 t; omega
  have htr := hi.split.2.1
  rw [htr] at hw HE
  have HST : Hid (ajT 2 b t = setT c.r.x c.r.y (adjT 2 b t)) := Lib.hid (by unfold ajT; rw [htr])
  have HCF := Lib.hid hi.fine.2.1
  have HSZ := Lib.hid (rsize_any c.r 2)
  have HOF := Lib.hid (fun W (h : Is W c t) => rof_any 2 (sz t) t c W (Nat.le_refl _) (by omega) h)
  have HCAN := Lib.hid (aj_can (ax := 2) (b := b) (t := t))
  rw [htr] at HCAN
  have HI := Lib.hid hi
  have HM := Lib.hid hm
  have HTT := Lib.hid ht
  obtain ⟨hb1, hb2⟩ := hb
  have hat : atA c.r 2 = c.r.y := rfl
  have hsz : szA c.r 2 = c.r.h := rfl
  rw [hat, hsz] at HE HCAN
  rw [hsz] at HSZ
  generalize hls0 : lsT 2 t = m at HE HCAN HOF hls hls2
  clear hi hm ht htr hat hsz hls0
  obtain ⟨c0, c1, c2, c3, c4, c5, c6⟩ := c7_of L0.out.box.cat
  go_enter Tryz.func37, Tryz.ntmps37
  go_wp2_with fail
  refine HT.out.mono ?_
  rintro e w1 ⟨rfl, hb1'⟩
  have L1 := Lib.hid (L0.out.up hb1')
  clear hb1' c0 c1 c2 c3 c4 c5 c6 HT
  obtain ⟨c0, c1, c2, c3, c4, c5, c6⟩ := c7_of L1.out.box.cat
  go_wp2_with fail
  refine (HSZ.out w1).mono ?_
  rintro e w2 ⟨rfl, hb2'⟩
  have L2 := Lib.hid (L1.out.up hb2')
  clear hb2' c0 c1 c2 c3 c4 c5 c6 L1
  obtain ⟨c0, c1, c2, c3, c4, c5, c6⟩ := c7_of L2.out.box.cat
  by_cases g1 : 10000 < b
  · have d1 : decide (10000 < b) = true := decide_eq_true g1
    have HE9 := Lib.hid (HE.out.trans (if_pos (.inl g1)))
    clear g1
    obtain ⟨⟨z0, z1, z2, z3, z4, z5, z6⟩, f0, f1, f2, f3, f4, f5, f6⟩ := zero_parts L2.out.zero
    go_wp2
    (try simp only [Exit.inBlock, Exit.then])
    refine bodyPost_ret (results_c2 rfl _ _ (w.heap.size + 1) noC rfl ((Box7.of_zero L2.out.zero).put noC)) rfl ?_
    exact aj_err HE9.out (by decide) (below_put7 L2.out.below (by omega) noC)
  have d1 : decide (10000 < b) = false := decide_eq_false g1
  by_cases g2 : b < -10000
  · have d2 : decide (b < -10000) = true := decide_eq_true g2
    have HE9 := Lib.hid (HE.out.trans (if_pos (.inr (.inl g2))))
    clear g1 g2
    obtain ⟨⟨z0, z1, z2, z3, z4, z5, z6⟩, f0, f1, f2, f3, f4, f5, f6⟩ := zero_parts L2.out.zero
    go_wp2
    (try simp only [Exit.inBlock, Exit.then])
    refine bodyPost_ret (results_c2 rfl _ _ (w.heap.size + 1) noC rfl ((Box7.of_zero L2.out.zero).put noC)) rfl ?_
    exact aj_err HE9.out (by decide) (below_put7 L2.out.below (by omega) noC)
  have d2 : decide (b < -10000) = false := decide_eq_false g2
  have hw1 : IntKind.i64.wrap (c.r.y + c.r.h) = c.r.y + c.r.h := wrap_id (by omega)
  have hw2 : IntKind.i64.wrap (c.r.y + c.r.h + b) = c.r.y + c.r.h + b := wrap_id (by omega)
  have hw3 : IntKind.i64.wrap (c.r.h + b) = c.r.h + b := wrap_id (by omega)
  by_cases g3 : 10000 < c.r.y + c.r.h + b
  · have d3 : decide (10000 < c.r.y + c.r.h + b) = true := decide_eq_true g3
    have HE9 := Lib.hid (HE.out.trans (if_pos (.inr (.inr (.inl g3)))))
    clear g1 g2 g3
    obtain ⟨⟨z0, z1, z2, z3, z4, z5, z6⟩, f0, f1, f2, f3, f4, f5, f6⟩ := zero_parts L2.out.zero
    go_wp2
    (try simp only [Exit.inBlock, Exit.then])
    refine bodyPost_ret (results_c2 rfl _ _ (w.heap.size + 1) noC rfl ((Box7.of_zero L2.out.zero).put noC)) rfl ?_
    exact aj_err HE9.out (by decide) (below_put7 L2.out.below (by omega) noC)
  have d3 : decide (10000 < c.r.y + c.r.h + b) = false := decide_eq_false g3
  have HGO := Lib.hid (show ¬ (10000 < b) ∧ ¬ (b < -10000) ∧ ¬ (10000 < c.r.y + c.r.h + b) from ⟨g1, g2, g3⟩)
  clear g1 g2 g3
  go_wp2_with fail
  refine (HOF.out w2 (L2.out.is HI.out)).mono ?_
  rintro e w3 ⟨rfl, hb3'⟩
  have L3 := Lib.hid (L2.out.up hb3')
  clear hb3' c0 c1 c2 c3 c4 c5 c6 L2
  by_cases g4 : c.r.h + b < m
  · have d4 : decide (c.r.h + b < m) = true := decide_eq_true g4
    have HE9 := Lib.hid (HE.out.trans (if_pos (.inr (.inr (.inr g4)))))
    clear g4
    obtain ⟨⟨z0, z1, z2, z3, z4, z5, z6⟩, f0, f1, f2, f3, f4, f5, f6⟩ := zero_parts L3.out.zero
    go_wp2
    (try simp only [Exit.inBlock, Exit.then])
    refine bodyPost_ret (results_c2 rfl _ _ (w.heap.size + 1) noC rfl ((Box7.of_zero L3.out.zero).put noC)) rfl ?_
    exact aj_err HE9.out (by decide) (below_put7 L3.out.below (by omega) noC)
  · have d4 : decide (c.r.h + b < m) = false := decide_eq_false g4
    have hno : ¬ (10000 < b ∨ b < -10000 ∨ 10000 < c.r.y + c.r.h + b ∨ c.r.h + b < m) := by have := HGO.out; omega
    have HE9 := Lib.hid (HE.out.trans (if_neg hno))
    have hcan := HCAN.out hno
    have D3 : Hid (ASt w c w3.drew) := Lib.hid (L3.out.up (Below.refl _ _).drew)
    have X3 := Lib.hid (c7_of D3.out.box.cat)
    have HAD := Lib.hid (radj2_any (sz t) t c b w3.drew (Nat.le_refl _) HM.out HTT.out hcan (D3.out.is HI.out))
    have HSET := Lib.hid (fun (d : C) (W : World) (h : Is W d (adjT 2 b t)) => rset_any (sz (adjT 2 b t)) (adjT 2 b t) d c.r.x c.r.y W (Nat.le_refl _) HCF.out.1 HCF.out.2.1 h)
    clear hno g4 hcan HE HCAN
    generalize adjT 2 b t = t' at HAD HSET HST
    go_wp2_with fail
    go_region_held3 (fun W => W.cell? ⟨w.heap.size, 0, none⟩ = some (.int .u8 c.k) ∧ W.cell? ⟨w.heap.size, 1, none⟩ = some (.int .i64 c.r.x) ∧ W.cell? ⟨w.heap.size, 2, none⟩ = some (.int .i64 c.r.y) ∧ W.cell? ⟨w.heap.size, 3, none⟩ = some (.int .i64 c.r.w) ∧ W.cell? ⟨w.heap.size, 4, none⟩ = some (.int .i64 c.r.h) ∧ W.cell? ⟨w.heap.size, 5, none⟩ = some (.int .i64 c.id) ∧ W.cell? ⟨w.heap.size, 6, none⟩ = some (.slice c.a c.n c.cap)) (first | with_reducible exact X3.out | with_reducible exact X4.out | with_reducible exact X5.out | with_reducible exact X6.out)
      (first
        | (go_at_call 61; (with_reducible refine HAD.out.mono ?_); rintro e w4 ⟨d4, rfl, hst4, hb4⟩; have L4 := Lib.hid (D3.out.up hb4); have X4 := Lib.hid (c7_of L4.out.box.cat); have I4 := Lib.hid (hst4.is trivial); clear hst4 hb4)
        | (go_at_call 17; (with_reducible refine (HSET.out d4 w4 I4.out).mono ?_); rintro e w5 ⟨d5, S5, rfl, hown5, -, hb5⟩; have L5 := Lib.hid (L4.out.up hb5); have X5 := Lib.hid (c7_of L5.out.box.cat); have O5 := Lib.hid hown5; have X6 := Lib.hid (c7_put7 (k := w.heap.size + 1) (x := d5) X5.out (by omega)); obtain ⟨⟨z0, z1, z2, z3, z4, z5, z6⟩, f0, f1, f2, f3, f4, f5, f6⟩ := zero_parts L5.out.zero; clear hown5 hb5))
    go_wp2
    (try simp only [Exit.inBlock, Exit.then])
    refine bodyPost_ret (results_c2 rfl _ _ (w.heap.size + 1) d5 rfl ((Box7.of_zero L5.out.zero).put d5)) rfl ?_
    exact aj_ok HE9.out HST.out (stands_put L5.out O5.out rfl (lt_of_block L4.out.zero)) (below_put7 L5.out.below (by omega) d5)

theorem radjust_any (t : T) (c : C) (ax b : Int) (w : World) (hm : sz t ≤ 990) (hi : Is w c t) (hb : fits b) : Calls Tryz.prog 37 #[cval c, .int .u8 ax, .int .i64 b] w (AjSays ax b t .i64 w) := by
  by_cases h : tileB t = true ∧ axB ax = true
  · obtain ⟨ht, ha⟩ := h
    rcases (axB_iff ax).1 ha with rfl | rfl
    · exact radjust1_any t c b w hm hi hb ht
    · exact radjust2_any t c b w hm hi hb ht
  · exact radjust_arg t c ax b w hm hi h
end Go.Proofs.YtbbjnimadnbmnaaGreat
/- Givers: cells with what they can give, as they lie in memory, and as trees; rows of them. No walk. -/
namespace Go.Proofs.YtbbjnimadnbmnaaGreat
open Go.RowKit

structure G where
  c : C
  g : Int
  a : Option Addr
  n : Nat
  cap : Nat
deriving Inhabited
def encG (x : G) : List Value := [.int .u8 x.c.k, .int .i64 x.c.r.x, .int .i64 x.c.r.y, .int .i64 x.c.r.w, .int .i64 x.c.r.h, .int .i64 x.c.id, .slice x.c.a x.c.n x.c.cap, .int .i64 x.g, .slice x.a x.n x.cap]
abbrev gval (x : G) : Value := .agg #[.int .u8 x.c.k, .int .i64 x.c.r.x, .int .i64 x.c.r.y, .int .i64 x.c.r.w, .int .i64 x.c.r.h, .int .i64 x.c.id, .slice x.c.a x.c.n x.c.cap, .int .i64 x.g, .slice x.a x.n x.cap]
abbrev gbox (x : G) : Obj := .cells #[.int .u8 x.c.k, .int .i64 x.c.r.x, .int .i64 x.c.r.y, .int .i64 x.c.r.w, .int .i64 x.c.r.h, .int .i64 x.c.id, .slice x.c.a x.c.n x.c.cap, .int .i64 x.g, .slice x.a x.n x.cap] 99
abbrev G9 (b o : Nat) (x : G) (w : World) : Prop :=
  w.cell? ⟨b, o, none⟩ = some (.int .u8 x.c.k) ∧ w.cell? ⟨b, o + 1, none⟩ = some (.int .i64 x.c.r.x) ∧ w.cell? ⟨b, o + 2, none⟩ = some (.int .i64 x.c.r.y) ∧ w.cell? ⟨b, o + 3, none⟩ = some (.int .i64 x.c.r.w) ∧ w.cell? ⟨b, o + 4, none⟩ = some (.int .i64 x.c.r.h) ∧ w.cell? ⟨b, o + 5, none⟩ = some (.int .i64 x.c.id) ∧ w.cell? ⟨b, o + 6, none⟩ = some (.slice x.c.a x.c.n x.c.cap) ∧ w.cell? ⟨b, o + 7, none⟩ = some (.int .i64 x.g) ∧ w.cell? ⟨b, o + 8, none⟩ = some (.slice x.a x.n x.cap)
theorem g9_up {b o : Nat} {x : G} {w w' : World} (h : G9 b o x w) (hb : Below w.heap.size w w') : G9 b o x w' := by
  obtain ⟨a0, a1, a2, a3, a4, a5, a6, a7, a8⟩ := h
  exact ⟨(hb.cell (lt_of_cell a0)).trans a0, (hb.cell (lt_of_cell a1)).trans a1, (hb.cell (lt_of_cell a2)).trans a2, (hb.cell (lt_of_cell a3)).trans a3, (hb.cell (lt_of_cell a4)).trans a4, (hb.cell (lt_of_cell a5)).trans a5, (hb.cell (lt_of_cell a6)).trans a6, (hb.cell (lt_of_cell a7)).trans a7, (hb.cell (lt_of_cell a8)).trans a8⟩

def flatG (l : List G) : List Value := l.flatMap encG
theorem flatG_length (l : List G) : (flatG l).length = l.length * 9 := by
  induction l with
  | nil => rfl
  | cons r l ih => simp only [flatG, List.flatMap_cons, List.length_append] at *; rw [ih]; simp [encG]; omega
theorem flatG_append (a b : List G) : flatG (a ++ b) = flatG a ++ flatG b := by simp [flatG]
theorem flatG_one (c : G) : flatG [c] = encG c := by simp [flatG]
theorem flatG_get (l : List G) (j i : Nat) (c : G) (hj : l[j]? = some c) (hi : i < 9) : (flatG l)[j * 9 + i]? = (encG c)[i]? := by
  induction l generalizing j with
  | nil => simp at hj
  | cons q l ih =>
    have he : flatG (q :: l) = encG q ++ flatG l := by simp [flatG]
    rw [he]
    have hq : (encG q).length = 9 := rfl
    cases j with
    | zero =>
      simp at hj; subst hj
      rw [List.getElem?_append_left (by omega)]
      simp
    | succ j =>
      rw [List.getElem?_append_right (by omega), hq, show (j + 1) * 9 + i - 9 = j * 9 + i by omega]
      exact ih j (by simpa using hj)
theorem flatG_oneCell (l : List G) : ∀ u ∈ flatG l, u.oneCell' = true := by
  intro u hu
  simp only [flatG, List.mem_flatMap] at hu
  obtain ⟨r, -, hr⟩ := hu
  simp [encG] at hr
  rcases hr with rfl | rfl | rfl | rfl | rfl | rfl | rfl | rfl | rfl <;> rfl

/-- A row of the call's own. -/
def OwnG (w : World) (base : Nat) (v : Value) (l : List G) : Prop := w.ownsRow base 99 9 v l.length (flatG l)
theorem OwnG.up {w w' : World} {base : Nat} {v : Value} {l : List G} (h : OwnG w base v l) (hb : Below w.heap.size w w') : OwnG w' base v l := owns_up h hb
theorem OwnG.lower {w : World} {base base' : Nat} {v : Value} {l : List G} (h : OwnG w base v l) (hb : base' ≤ base) : OwnG w base' v l := owns_base h hb
theorem OwnG.nil (w : World) (base : Nat) : OwnG w base (.slice none 0 0) [] := World.ownsRow_nil w base _ _
theorem ownG_block {w : World} {base : Nat} {v : Value} {l : List G} (h : OwnG w base v l) {g : Nat} (hg : v.ownBlock = some g) : base ≤ g ∧ g < w.heap.size := h.lt g hg
theorem ownG_kept {w w' : World} {base : Nat} {v : Value} {l : List G} (h : OwnG w base v l) (hk : ∀ g, v.ownBlock = some g → w'.heap[g]? = w.heap[g]?) : OwnG w' base v l := by
  refine ⟨h.1, ?_⟩
  rcases h.2 with hn | ⟨g, cap, cur, rfl, hg0, hg, rest⟩
  · exact .inl hn
  · exact .inr ⟨g, cap, cur, rfl, hg0, (hk g rfl).trans hg, rest⟩
/-- Givers in a slice. -/
def GRow (w : World) (v : Value) (l : List G) : Prop :=
  (∃ a cap, v = .slice a 0 cap ∧ l = []) ∨ ∃ b o cap, v = .slice (some ⟨b, o, none⟩) l.length cap ∧ ∀ (j : Nat) (c : G), l[j]? = some c → G9 b (o + j * 9) c w
theorem GRow.up {w w' : World} {v : Value} {l : List G} (h : GRow w v l) (hb : Below w.heap.size w w') : GRow w' v l := by
  rcases h with h | ⟨b, o, cap, h1, h2⟩
  · exact .inl h
  · exact .inr ⟨b, o, cap, h1, fun j f hf => g9_up (h2 j f hf) hb⟩
theorem GRow.shape {w : World} {v : Value} {l : List G} (hr : GRow w v l) : ∃ a cap, v = .slice a l.length cap := by
  rcases hr with ⟨a, cap, rfl, rfl⟩ | ⟨b, o, cap, rfl, -⟩
  · exact ⟨_, _, rfl⟩
  · exact ⟨_, _, rfl⟩
theorem GRow.len {w : World} {a : Option Addr} {n cap : Nat} {l : List G} (hr : GRow w (.slice a n cap) l) : n = l.length := by
  obtain ⟨a', cap', h⟩ := hr.shape
  cases h; rfl
theorem GRow.place {w : World} {a : Option Addr} {n cap : Nat} {l : List G} (hr : GRow w (.slice a n cap) l) (hp : 0 < l.length) : ∃ b o, a = some ⟨b, o, none⟩ ∧ ∀ (j : Nat) (c : G), l[j]? = some c → G9 b (o + j * 9) c w := by
  rcases hr with ⟨_, _, -, rfl⟩ | ⟨b, o, cap', he, hf⟩
  · simp at hp
  · obtain ⟨rfl, rfl⟩ : a = some ⟨b, o, none⟩ ∧ cap = cap' := by cases he; exact ⟨rfl, rfl⟩
    exact ⟨b, o, rfl, hf⟩
theorem g9_of_flat {w : World} {g : Nat} {l : List G} (h : ∀ j u, (flatG l)[j]? = some u → w.cell? ((⟨g, 0, none⟩ : Addr).add j) = some u) (j : Nat) (c : G) (hj : l[j]? = some c) : G9 g (0 + j * 9) c w := by
  have hc : ∀ i, i < 9 → ∀ u, (encG c)[i]? = some u → w.cell? ⟨g, 0 + j * 9 + i, none⟩ = some u := fun i hi u hu => by
    have := h (j * 9 + i) u (by rw [flatG_get l j i c hj hi]; exact hu)
    rw [Go.WideShapes.add_plain, Nat.zero_add] at this
    rw [Nat.zero_add]
    exact this
  exact ⟨hc 0 (by omega) _ rfl, hc 1 (by omega) _ rfl, hc 2 (by omega) _ rfl, hc 3 (by omega) _ rfl, hc 4 (by omega) _ rfl, hc 5 (by omega) _ rfl, hc 6 (by omega) _ rfl, hc 7 (by omega) _ rfl, hc 8 (by omega) _ rfl⟩
theorem OwnG.row {w : World} {base : Nat} {v : Value} {l : List G} (h : OwnG w base v l) : GRow w v l := by
  rcases h.2 with ⟨rfl, hn⟩ | ⟨g, cap, cur, rfl, hb, hg, hn, hm, hs, ht⟩
  · exact .inl ⟨_, _, rfl, List.length_eq_zero_iff.1 hn⟩
  · exact .inr ⟨g, 0, cap, rfl, fun j r hj => g9_of_flat (h.cells (g := g) rfl) j r hj⟩

abbrev zeroG : Value := .agg #[.int .u8 0, .int .i64 0, .int .i64 0, .int .i64 0, .int .i64 0, .int .i64 0, .slice none 0 0, .int .i64 0, .slice none 0 0]
set_option maxRecDepth 100000 in
theorem infoG : (Tryz.prog.info? 99).map (fun i => (i.zero, i.size, i.bytes)) = some (some zeroG, 9, 104) := by kernel_rfl
theorem grow_cells {w : World} {b : Nat} {x : G} (h : G9 b 0 x w) : ∀ j u, (flatG [x])[j]? = some u → w.cell? ((⟨b, 0, none⟩ : Addr).add j) = some u := by
  intro j u hu
  obtain ⟨a0, a1, a2, a3, a4, a5, a6, a7, a8⟩ := h
  rw [flatG_one] at hu
  rw [Go.WideShapes.add_plain]
  match j with
  | 0 => simp [encG] at hu; subst hu; exact a0
  | 1 => simp [encG] at hu; subst hu; exact a1
  | 2 => simp [encG] at hu; subst hu; exact a2
  | 3 => simp [encG] at hu; subst hu; exact a3
  | 4 => simp [encG] at hu; subst hu; exact a4
  | 5 => simp [encG] at hu; subst hu; exact a5
  | 6 => simp [encG] at hu; subst hu; exact a6
  | 7 => simp [encG] at hu; subst hu; exact a7
  | 8 => simp [encG] at hu; subst hu; exact a8
  | j + 9 => simp [encG] at hu
set_option maxRecDepth 100000 in
/-- append(own.., giver): what is owned then is both; where it lies. -/
theorem wpList_append_giver {w : World} {ops : Array Oper} {rest : List Oper} {o : Oper} {a : Act} {Q : Exit → Act → World → Prop} (hgd : o.guard = none) (s x : Operand)
    (ho : o.op = .call { callee := .builtin .append, args := #[s, x], argTypes := #[97, 97] })
    (base : Nat) (v : Value) (xs : List G) (g0 : Nat) (d : G) (hs : a.eval s = v) (hown : OwnG w base v xs) (hx : a.eval x = .slice (some ⟨g0, 0, none⟩) 1 1) (hrow : G9 g0 0 d w)
    (h63 : xs.length + 1 ≤ 1000000) (w0 : World) (hb : Below base w0 w) (hbase0 : base ≤ w0.heap.size)
    (h : ∀ g cap w', OwnG w' base (.slice (some ⟨g, 0, none⟩) (xs.length + 1) cap) (xs ++ [d]) → Below base w0 w' → w.grownBy w' v.ownBlock → (v.ownBlock = some g ∨ g = w.heap.size) → wpList Tryz.prog ops Q rest (a.put o.dst (.slice (some ⟨g, 0, none⟩) (xs.length + 1) cap)) w') : wpList Tryz.prog ops Q (o :: rest) a w := by
  have hbase : base ≤ w.heap.size := Nat.le_trans hbase0 hb.size
  obtain ⟨i, hi, hz0, hz2, hz3⟩ := info_parts infoG
  refine wpList_append_lies w hgd s x 97 ho base 99 i zeroG 9 104 Tryz.underlying97 hi hz0 hz2 hz3 rfl (by decide) v xs.length (flatG xs) hs hown ⟨g0, 0, none⟩ 1 1 (flatG [d]) hx (flatG_length _) (grow_cells hrow) (flatG_oneCell _) (by decide) (by unfold maxLen; omega) (by omega) hbase w.heap.size rfl ?_
  intro g cap' w' g1 g2 g3 _
  refine h g cap' w' ?_ (hb.grown g2 hbase (fun k hk => (hown.lt k hk).1)) g2 g3
  rw [← flatG_append] at g1
  have hl : (xs ++ [d]).length = xs.length + 1 := by simp
  unfold OwnG
  rw [hl]; exact g1

/-- The tree that a giver tells. -/
inductive IsG (w : World) (ax : Int) : G → T → Prop
  | mk (x : G) (kids : List T) (gs : List G) (hdr : x.c.a = none ∧ x.c.n = 0 ∧ x.c.cap = 0) (row : GRow w (.slice x.a x.n x.cap) gs) (len : gs.length = kids.length) (fine : x.c.fine) (give : x.g = gvT ax (.node x.c.k x.c.r x.c.id kids)) (each : ∀ (j : Nat) (y : G) (t : T), gs[j]? = some y → kids[j]? = some t → IsG w ax y t) : IsG w ax x (.node x.c.k x.c.r x.c.id kids)
theorem IsG.up {w w' : World} {ax : Int} {x : G} {t : T} (h : IsG w ax x t) (hb : Below w.heap.size w w') : IsG w' ax x t := by
  induction h with
  | mk x kids gs hdr row len fine give each ih => exact .mk x kids gs hdr (row.up hb) len fine give ih
theorem IsG.split {w : World} {ax : Int} {x : G} {t : T} (h : IsG w ax x t) : t.k = x.c.k ∧ t.r = x.c.r ∧ t.id = x.c.id ∧ x.c.fine ∧ (x.c.a = none ∧ x.c.n = 0 ∧ x.c.cap = 0) ∧ x.g = gvT ax t ∧ ∃ gs, GRow w (.slice x.a x.n x.cap) gs ∧ gs.length = t.kids.length ∧ x.n = t.kids.length ∧ ∀ (j : Nat) (y : G) (u : T), gs[j]? = some y → t.kids[j]? = some u → IsG w ax y u := by
  cases h with
  | mk x kids gs hdr row len fine give each => exact ⟨rfl, rfl, rfl, fine, hdr, give, gs, row, len, row.len.trans len, each⟩
/-- It tells the tree in every world that has w's blocks from lo to hi. -/
def StandsG (w : World) (lo hi : Nat) (ax : Int) (x : G) (t : T) : Prop := ∀ W' : World, (∀ k, lo ≤ k → k < hi → W'.heap[k]? = w.heap[k]?) → IsG W' ax x t
theorem StandsG.is {w : World} {lo hi : Nat} {ax : Int} {x : G} {t : T} (h : StandsG w lo hi ax x t) : IsG w ax x t := h w fun _ _ _ => rfl
theorem StandsG.move {w w2 : World} {lo hi : Nat} {ax : Int} {x : G} {t : T} (h : StandsG w lo hi ax x t) (h1 : ∀ k, lo ≤ k → k < hi → w2.heap[k]? = w.heap[k]?) : StandsG w2 lo hi ax x t :=
  fun W' g1 => h W' fun k hl hh => (g1 k hl hh).trans (h1 k hl hh)
theorem StandsG.wide {w : World} {lo hi lo' hi' : Nat} {ax : Int} {x : G} {t : T} (h : StandsG w lo hi ax x t) (hl : lo' ≤ lo) (hh : hi ≤ hi') : StandsG w lo' hi' ax x t :=
  fun W' g1 => h W' fun k hl' hh' => g1 k (by omega) (by omega)
structure GroveG (w : World) (base : Nat) (v : Value) (ax : Int) (gs : List G) (l : List T) : Prop where
  row : OwnG w base v gs
  len : gs.length = l.length
  each : ∀ (j : Nat) (x : G) (t : T), gs[j]? = some x → l[j]? = some t → ∃ lo hi, base ≤ lo ∧ hi ≤ w.heap.size ∧ (∀ g, v.ownBlock = some g → g < lo ∨ hi ≤ g) ∧ StandsG w lo hi ax x t
theorem GroveG.nil (w : World) (base : Nat) (ax : Int) : GroveG w base (.slice none 0 0) ax [] [] := ⟨OwnG.nil w base, rfl, fun j x t hx => by simp at hx⟩
theorem GroveG.kept {w w2 : World} {base : Nat} {v : Value} {ax : Int} {gs : List G} {l : List T} (h : GroveG w base v ax gs l) (hs : w.heap.size ≤ w2.heap.size) (hk : ∀ k, base ≤ k → k < w.heap.size → w2.heap[k]? = w.heap[k]?) : GroveG w2 base v ax gs l :=
  ⟨ownG_kept h.row fun g hg => hk g (ownG_block h.row hg).1 (ownG_block h.row hg).2, h.len, fun j x t hx ht => by
    obtain ⟨lo, hi, a1, a2, a3, a4⟩ := h.each j x t hx ht
    exact ⟨lo, hi, a1, Nat.le_trans a2 hs, a3, a4.move fun k hl hh => hk k (by omega) (by omega)⟩⟩
theorem GroveG.lower {w : World} {base base' : Nat} {v : Value} {ax : Int} {gs : List G} {l : List T} (h : GroveG w base v ax gs l) (hb : base' ≤ base) : GroveG w base' v ax gs l :=
  ⟨h.row.lower hb, h.len, fun j x t hx ht => by
    obtain ⟨lo, hi, a1, a2, a3, a4⟩ := h.each j x t hx ht
    exact ⟨lo, hi, Nat.le_trans hb a1, a2, a3, a4⟩⟩
/-- One more, that the call just made. -/
theorem GroveG.one {wr w2 w2' w3 : World} {base : Nat} {v : Value} {ax : Int} {gs : List G} {l : List T} {d : G} {u : T} {g cap : Nat}
    (h : GroveG wr base v ax gs l) (hb : Below wr.heap.size wr w2) (hb' : Below w2.heap.size w2 w2') (hbase : base ≤ wr.heap.size)
    (hd : StandsG w2 wr.heap.size w2.heap.size ax d u)
    (hown : OwnG w3 base (.slice (some ⟨g, 0, none⟩) (gs.length + 1) cap) (gs ++ [d])) (hgr : w2'.grownBy w3 v.ownBlock) (hpl : v.ownBlock = some g ∨ g = w2'.heap.size) :
    GroveG w3 base (.slice (some ⟨g, 0, none⟩) (gs.length + 1) cap) ax (gs ++ [d]) (l ++ [u]) := by
  have hvb : ∀ k, v.ownBlock = some k → base ≤ k ∧ k < wr.heap.size := fun k hk => ownG_block h.row hk
  have hs := hb.size
  have hs' := hb'.size
  have hs3 := hgr.size
  have hsame : ∀ k, k < w2.heap.size → v.ownBlock ≠ some k → w3.heap[k]? = w2.heap[k]? := fun k hk hne => by
    rw [hgr.block k (by omega) (fun e => hne e.symm)]
    exact hb'.block k hk
  have hgo : ∀ k, (Value.slice (some ⟨g, 0, none⟩) (gs.length + 1) cap).ownBlock = some k → k = g := fun k hk => by cases hk; rfl
  refine ⟨hown, by simp [h.len], fun j x t hx ht => ?_⟩
  rcases Nat.lt_or_ge j gs.length with hj | hj
  · rw [List.getElem?_append_left hj] at hx
    rw [List.getElem?_append_left (by rw [← h.len]; exact hj)] at ht
    obtain ⟨lo, hi, a1, a2, a3, a4⟩ := h.each j x t hx ht
    refine ⟨lo, hi, a1, by omega, fun k hk => ?_, a4.move fun k hl hh => ?_⟩
    · rw [hgo k hk]
      rcases hpl with hp | hp
      · exact a3 g hp
      · right; omega
    · rw [hsame k (by omega) (fun e => by have := a3 k e; omega)]
      exact hb.block k (by omega)
  · rw [List.getElem?_append_right hj] at hx
    rw [List.getElem?_append_right (by rw [← h.len]; exact hj), ← h.len] at ht
    obtain ⟨h0, rfl⟩ : j - gs.length = 0 ∧ d = x := by
      cases hm : j - gs.length with
      | zero => rw [hm] at hx; simp at hx; exact ⟨rfl, hx⟩
      | succ m => rw [hm] at hx; simp at hx
    rw [h0] at ht
    simp at ht; subst ht
    refine ⟨wr.heap.size, w2.heap.size, hbase, by omega, fun k hk => ?_, hd.move fun k hl hh => ?_⟩
    · rw [hgo k hk]
      rcases hpl with hp | hp
      · have := hvb g hp; omega
      · right; omega
    · exact hsame k (by omega) fun e => by have := hvb k e; omega
/-- The giver whose kids they are. -/
theorem GroveG.tree {w : World} {base : Nat} {k : Int} {r : R} {id gv ax : Int} {a : Option Addr} {n cap : Nat} {gs : List G} {l : List T} (h : GroveG w base (.slice a n cap) ax gs l) (hk : 0 ≤ k ∧ k ≤ 255) (hr : r.fits) (hi : fits id) (hg : gv = gvT ax (.node k r id l)) :
    StandsG w base w.heap.size ax ⟨⟨k, r, id, none, 0, 0⟩, gv, a, n, cap⟩ (.node k r id l) := by
  intro W' g1
  refine .mk ⟨⟨k, r, id, none, 0, 0⟩, gv, a, n, cap⟩ l gs ⟨rfl, rfl, rfl⟩ (ownG_kept h.row fun g hg => ?_).row h.len ⟨hk, hr, hi, by simp⟩ hg fun j x t hx ht => ?_
  · have := ownG_block h.row hg
    exact g1 g this.1 this.2
  · obtain ⟨lo, hi, a1, a2, a3, a4⟩ := h.each j x t hx ht
    exact a4 W' fun k hl hh => g1 k (by omega) (by omega)

/-- A box of a giver. -/
def Box9 (w : World) (b : Nat) (x : G) : Prop := w.heap[b]? = some (gbox x)
theorem Box9.up {w w' : World} {b : Nat} {x : G} (h : Box9 w b x) (hb : Below w.heap.size w w') : Box9 w' b x := (hb.block b (lt_of_block h)).trans h
theorem Box9.new (w : World) (x : G) : Box9 (w.alloc (gbox x)) w.heap.size x := heap_alloc_new w _
theorem Box9.cat {w : World} {b : Nat} {x : G} (h : Box9 w b x) : G9 b 0 x w := by
  have h' : w.heap[b]? = some (gbox x) := h
  refine ⟨?_, ?_, ?_, ?_, ?_, ?_, ?_, ?_, ?_⟩ <;> simp [World.cell?, h']
theorem Box9.free {w : World} {b : Nat} {x : G} (h : Box9 w b x) (o : Nat) : w.frozen? ⟨b, o, none⟩ = false := by
  have h' : w.heap[b]? = some (gbox x) := h
  simp [World.frozen?, h']
theorem Box9.give {w : World} {b : Nat} {x : G} (h : Box9 w b x) (m : Int) : Box9 (w.setCell ⟨b, 7, none⟩ (.int .i64 m)) b ⟨x.c, m, x.a, x.n, x.cap⟩ := by
  have h' : w.heap[b]? = some (gbox x) := h
  have h1 := set_block (i := 7) h' (.int .i64 m)
  refine h1.trans ?_
  simp
theorem Box9.kids {w : World} {b : Nat} {x : G} (h : Box9 w b x) (a : Option Addr) (n cap : Nat) : Box9 (w.setCell ⟨b, 8, none⟩ (.slice a n cap)) b ⟨x.c, x.g, a, n, cap⟩ := by
  have h' : w.heap[b]? = some (gbox x) := h
  have h1 := set_block (i := 8) h' (.slice a n cap)
  refine h1.trans ?_
  simp
theorem Box9.row {w : World} {b : Nat} {x : G} (h : Box9 w b x) (a : Option Addr) (n cap : Nat) : Box9 (w.setCell ⟨b, 6, none⟩ (.slice a n cap)) b ⟨⟨x.c.k, x.c.r, x.c.id, a, n, cap⟩, x.g, x.a, x.n, x.cap⟩ := by
  have h' : w.heap[b]? = some (gbox x) := h
  have h1 := set_block (i := 6) h' (.slice a n cap)
  refine h1.trans ?_
  simp
end Go.Proofs.YtbbjnimadnbmnaaGreat
