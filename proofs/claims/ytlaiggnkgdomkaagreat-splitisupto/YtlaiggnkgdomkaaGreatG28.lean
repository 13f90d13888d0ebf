/- Texts of this seat, 3 in one file. -/
import Derived.Test.YtlaiggnkgdomkaaGreatG25
import Derived.Test.YtlaiggnkgdomkaaGreatG27
import Derived.Test.YtlaiggnkgdomkaaGreatG23
/- Least, Gives, Fits: the document's. -/
namespace Go.Proofs.YtlaiggnkgdomkaaGreat
open Go.RowKit

/-- Does a tree tile: the document's. -/
theorem rtiles8_any (t : T) (c : C) (w : World) (hi : Is w c t) (hs : sz t ≤ 20000) : Calls Tryz.prog 11 #[cval c] w fun e w' => e = .returned (.bool (tileB t)) ∧ Below w.heap.size w w' := by
  have HA : Hid (Below w.heap.size w (w.alloc (cbox c))) := (Below.refl _ _).alloc (Nat.le_refl _) _
  have hmi := may_is (t := t) (by omega)
  have HCK : Hid (Calls Tryz.prog 29 #[cval c] (w.alloc (cbox c)) fun e w' => ∃ (v : Value) (no pl : Int), e = .returned (.tuple #[v, .int .i64 no, .int .i64 pl]) ∧ (no == 0) = tileB t ∧ Below w.heap.size w w') := Lib.hid ((rcheck_any t c (w.alloc (cbox c)) (hi.up HA.out) hs).mono fun e w' h => by
    obtain ⟨v, no, pl, l, h1, -, h3, h4⟩ := h
    refine ⟨v, no, pl, h1, ?_, below_one h3⟩
    unfold tileB
    rw [hmi]
    rcases h4 with ⟨a, rfl, -, -⟩ | ⟨a, b, rfl, -, -⟩ | ⟨a, b, rfl, -, -⟩
    · rw [a]; rfl
    · rw [a, b]; rfl
    · rw [a, b]; rfl)
  clear hi hmi
  generalize tileB t = tb at HCK ⊢
  go_enter Tryz.func11, Tryz.ntmps11
  go_wp2_with fail
  refine HCK.out.mono ?_
  rintro e w2 ⟨v, no, pl, rfl, hno, hb2⟩
  have B2 := Lib.hid hb2
  clear hb2
  go_wp2
  go_ret
  exact ⟨by first | (rw [hno]; rfl) | rfl, B2.out⟩

theorem ax_tests {ax : Int} : (axB ax = true → decide (ax < 1) = false ∧ decide (2 < ax) = false) := fun h => by
  rcases (axB_iff ax).1 h with rfl | rfl <;> decide
theorem ax_test2 {ax : Int} (h : axB ax = false) : decide (ax < 1) = true ∨ (decide (ax < 1) = false ∧ decide (2 < ax) = true) := by
  have hn : ¬ (ax = 1 ∨ ax = 2) := fun e => by rw [(axB_iff ax).2 e] at h; cases h
  by_cases h1 : ax < 1
  · exact .inl (decide_eq_true h1)
  · exact .inr ⟨decide_eq_false h1, decide_eq_true (by omega)⟩

theorem fits_parts (t : T) (a b : Int) : fits8 t a b = (mayT t && (decide (lsT 1 t ≤ a) && (decide (a ≤ 10000 - t.r.x) && (decide (lsT 2 t ≤ b) && decide (b ≤ 10000 - t.r.y))))) := by
  have e1 : atA t.r 1 = t.r.x := rfl
  have e2 : atA t.r 2 = t.r.y := rfl
  unfold fits8 roomB
  rw [e1, e2]
  simp only [Bool.and_assoc]

end Go.Proofs.YtlaiggnkgdomkaaGreat
/- A leaf is split: the document's answer. -/
namespace Go.Proofs.YtlaiggnkgdomkaaGreat
open Go.RowKit

theorem sp_err {t : T} {id ax z fresh : Int} {ahead : Bool} {kind : IntKind} {w w' : World} {n : Int} (hn : spE t id ax z fresh ahead = n) (h0 : n ≠ 0) (hb : Below w.heap.size w w') : SpSays t id ax z fresh ahead kind w (.returned (.tuple #[cval noC, .int kind n])) w' := by
  subst hn
  exact ⟨noC, rfl, by rw [if_neg h0]; exact no_is w', hb⟩
theorem sp_ok {t t' : T} {id ax z fresh : Int} {ahead : Bool} {kind : IntKind} {w w' : World} {d : C} (hn : spE t id ax z fresh ahead = 0) (ht : spT t id ax z fresh ahead = t') (hi : Is w' d t') (hb : Below w.heap.size w w') : SpSays t id ax z fresh ahead kind w (.returned (.tuple #[cval d, .int kind 0])) w' := by
  subst ht
  exact ⟨d, by rw [hn], by rw [if_pos hn]; exact hi, hb⟩
theorem sp_arg {t : T} {id ax z fresh : Int} {ahead : Bool} (h : ¬ (tileB t = true ∧ axB ax = true ∧ 0 ≤ z ∧ 0 ≤ fresh ∧ fresh ≤ 2147483647)) : spE t id ax z fresh ahead = 1 := if_neg h
theorem sp_dup {t : T} {id ax z fresh : Int} {ahead : Bool} (h : tileB t = true ∧ axB ax = true ∧ 0 ≤ z ∧ 0 ≤ fresh ∧ fresh ≤ 2147483647) (hf : (lfF fresh t).isSome = true) : spE t id ax z fresh ahead = 1 := by
  unfold spE; rw [if_pos h, if_pos hf]
theorem sp_none {t : T} {id ax z fresh : Int} {ahead : Bool} (h : tileB t = true ∧ axB ax = true ∧ 0 ≤ z ∧ 0 ≤ fresh ∧ fresh ≤ 2147483647) (hf : (lfF fresh t).isSome = false) (hl : lfF id t = none) : spE t id ax z fresh ahead = 6 := by
  unfold spE; rw [if_pos h, if_neg (by rw [hf]; decide), hl]
theorem sp_some {t u : T} {id ax z fresh : Int} {ahead : Bool} (h : tileB t = true ∧ axB ax = true ∧ 0 ≤ z ∧ 0 ≤ fresh ∧ fresh ≤ 2147483647) (hf : (lfF fresh t).isSome = false) (hl : lfF id t = some u) :
    spE t id ax z fresh ahead = if szA u.r ax < 3 then 7 else if 20000 < sz (inT id ax (bothT u ax z fresh ahead) t) then 8 else 0 := by
  unfold spE; rw [if_pos h, if_neg (by rw [hf]; decide), hl]
theorem lf_leaf {id : Int} {t u : T} (h : lfF id t = some u) : u.k = 1 ∧ u.id = id ∧ u ∈ preT t := by
  have h1 := List.find?_some h
  have h2 := List.mem_of_find?_eq_some h
  rw [List.mem_filter] at h2
  refine ⟨?_, ?_, h2.1⟩
  · have := h2.2; unfold leafB at this; simpa using this
  · unfold lfB at h1; simpa using h1

/-- What the call keeps: its tree's box, its answer's, an empty one. -/
abbrev startW (w : World) (c : C) : World := ((w.alloc (cbox c)).alloc zeroBox).alloc zeroBox
structure LSt (w : World) (c : C) (W : World) : Prop where
  below : Below w.heap.size w W
  box : Box7 W w.heap.size c
  zero : Zero7 W (w.heap.size + 1)
  none : Box7 W (w.heap.size + 2) noC
theorem LSt.up {w W W' : World} {c : C} (h : LSt w c W) (hb : Below W.heap.size W W') : LSt w c W' := ⟨h.below.trans (hb.mono h.below.size), h.box.up hb, zero_up h.zero hb, h.none.up hb⟩
theorem LSt.start (w : World) (c : C) : LSt w c (startW w c) := by
  have h1 := cellW_below w c
  have h2 : Below (cellW w c).heap.size (cellW w c) (startW w c) := (Below.refl _ _).alloc (Nat.le_refl _) _
  refine ⟨h1.trans (h2.mono h1.size), (cellW_box w c).up h2, zero_up (cellW_zero w c) h2, ?_⟩
  have := zero_new (cellW w c)
  rw [cellW_size] at this
  exact this
theorem LSt.is {w W : World} {c : C} {t : T} (h : LSt w c W) (hi : Is w c t) : Is W c t := hi.up h.below

structure L2 (w : World) (c : C) (b : Nat) (lc : C) (W : World) : Prop where
  st : LSt w c W
  leaf : Box7 W b lc
theorem L2.up {w W W' : World} {c lc : C} {b : Nat} (h : L2 w c b lc W) (hb : Below W.heap.size W W') : L2 w c b lc W' := ⟨h.st.up hb, h.leaf.up hb⟩
abbrev C14 (b : Nat) (c : C) (b2 : Nat) (d : C) (W : World) : Prop := (W.cell? ⟨b, 0, none⟩ = some (.int .u8 c.k) ∧ W.cell? ⟨b, 1, none⟩ = some (.int .i64 c.r.x) ∧ W.cell? ⟨b, 2, none⟩ = some (.int .i64 c.r.y) ∧ W.cell? ⟨b, 3, none⟩ = some (.int .i64 c.r.w) ∧ W.cell? ⟨b, 4, none⟩ = some (.int .i64 c.r.h) ∧ W.cell? ⟨b, 5, none⟩ = some (.int .i64 c.id) ∧ W.cell? ⟨b, 6, none⟩ = some (.slice c.a c.n c.cap)) ∧ W.cell? ⟨b2, 0, none⟩ = some (.int .u8 d.k) ∧ W.cell? ⟨b2, 1, none⟩ = some (.int .i64 d.r.x) ∧ W.cell? ⟨b2, 2, none⟩ = some (.int .i64 d.r.y) ∧ W.cell? ⟨b2, 3, none⟩ = some (.int .i64 d.r.w) ∧ W.cell? ⟨b2, 4, none⟩ = some (.int .i64 d.r.h) ∧ W.cell? ⟨b2, 5, none⟩ = some (.int .i64 d.id) ∧ W.cell? ⟨b2, 6, none⟩ = some (.slice d.a d.n d.cap)
theorem L2.c14 {w W : World} {c lc : C} {b : Nat} (h : L2 w c b lc W) : C14 w.heap.size c b lc W := ⟨c7_of h.st.box.cat, c7_of h.leaf.cat⟩
theorem c14_alloc {b b2 : Nat} {c d : C} {W : World} (h : C14 b c b2 d W) (o : Obj) : C14 b c b2 d (W.alloc o) := by
  have hb : Below W.heap.size W (W.alloc o) := (Below.refl _ _).alloc (Nat.le_refl _) _
  obtain ⟨⟨a0, a1, a2, a3, a4, a5, a6⟩, b0, b1, b2, b3, b4, b5, b6⟩ := h
  exact ⟨⟨(hb.cell (lt_of_cell a0)).trans a0, (hb.cell (lt_of_cell a1)).trans a1, (hb.cell (lt_of_cell a2)).trans a2, (hb.cell (lt_of_cell a3)).trans a3, (hb.cell (lt_of_cell a4)).trans a4, (hb.cell (lt_of_cell a5)).trans a5, (hb.cell (lt_of_cell a6)).trans a6⟩, (hb.cell (lt_of_cell b0)).trans b0, (hb.cell (lt_of_cell b1)).trans b1, (hb.cell (lt_of_cell b2)).trans b2, (hb.cell (lt_of_cell b3)).trans b3, (hb.cell (lt_of_cell b4)).trans b4, (hb.cell (lt_of_cell b5)).trans b5, (hb.cell (lt_of_cell b6)).trans b6⟩

theorem c14_put7 {b b2 k : Nat} {c d x : C} {W : World} (h : C14 b c b2 d W) (h1 : b ≠ k) (h2 : b2 ≠ k) : C14 b c b2 d (put7 W k x) := by
  have g1 : ∀ o, (put7 W k x).cell? ⟨b, o, none⟩ = W.cell? ⟨b, o, none⟩ := fun o => World.cell?_of_block (a := ⟨b, o, none⟩) (heap_put7 h1)
  have g2 : ∀ o, (put7 W k x).cell? ⟨b2, o, none⟩ = W.cell? ⟨b2, o, none⟩ := fun o => World.cell?_of_block (a := ⟨b2, o, none⟩) (heap_put7 h2)
  obtain ⟨⟨a0, a1, a2, a3, a4, a5, a6⟩, b0, b1, b2, b3, b4, b5, b6⟩ := h
  exact ⟨⟨(g1 _).trans a0, (g1 _).trans a1, (g1 _).trans a2, (g1 _).trans a3, (g1 _).trans a4, (g1 _).trans a5, (g1 _).trans a6⟩, (g2 _).trans b0, (g2 _).trans b1, (g2 _).trans b2, (g2 _).trans b3, (g2 _).trans b4, (g2 _).trans b5, (g2 _).trans b6⟩

/-- Split, done: the whole tree in a box. -/
structure Mid (w : World) (c : C) (b : Nat) (d : C) (t' : T) (W : World) : Prop where
  st : LSt w c W
  cat : CAt W b 0 d
  is : Is W d t'
theorem Mid.up {w W W' : World} {c d : C} {b : Nat} {t' : T} (h : Mid w c b d t' W) (hb : Below W.heap.size W W') : Mid w c b d t' W' := ⟨h.st.up hb, h.cat.up hb, h.is.up hb⟩
theorem mid_new {w W : World} {c d : C} {t' : T} (h : LSt w c W) (hi : Is W d t') : Mid w c W.heap.size d t' (W.alloc (cbox d)) :=
  have hb : Below W.heap.size W (W.alloc (cbox d)) := (Below.refl _ _).alloc (Nat.le_refl _) _
  ⟨h.up hb, by simpa using cbox_new W d, hi.up hb⟩
/-- What stands: the elder memory, and the row of both. -/
def SpE (w : World) (v : Value) (ps : List C) (W : World) : Prop := Eld w W ∧ CRow W v ps
theorem spE_mk {w W : World} {base : Nat} {v : Value} {ps : List C} (h1 : Below w.heap.size w W) (h2 : OwnC W base v ps) : SpE w v ps W := ⟨Eld.of h1, h2.row⟩
theorem SpE.up {w : World} {v : Value} {ps : List C} : ∀ W W' : World, SpE w v ps W → Below W.heap.size W W' → SpE w v ps W' := fun _ _ h hb => ⟨h.1.up hb, h.2.up hb⟩
theorem mid_put {w W : World} {c d : C} {b lo hi base : Nat} {t' : T} {v : Value} {ps : List C} (h : LSt w c W) (hs : Stands (SpE w v ps) W lo hi d t') (hz : Zero7 W b) (h2 : w.heap.size + 2 < b) (hlo : b < lo) (hrow : OwnC W base v ps) (hne : ∀ g, v.ownBlock = some g → g ≠ b) : Mid w c b d t' (put7 W b d) := by
  have hsm : ∀ k, k ≠ b → (put7 W b d).heap[k]? = W.heap[k]? := fun k hk => heap_put7 hk
  refine ⟨⟨below_put7 h.below (by omega) d, (hsm _ (by omega)).trans h.box, (hsm _ (by omega)).trans h.zero, (hsm _ (by omega)).trans h.none⟩, ((Box7.of_zero hz).put d).cat, ?_⟩
  refine hs _ ⟨fun k hk => (hsm k (by omega)).trans (h.below.block k hk), (ownC_kept hrow fun g hg => hsm g (hne g hg)).row⟩ fun k hk _ => hsm k (by omega)

theorem ltA {a b : Nat} (h : a + 2 < b) : a < b := by omega
theorem two_shape {w : World} {base : Nat} {v : Value} {r : R} {id ax a b fresh : Int} {ahead : Bool} (h : OwnC w base v (twoC r id ax a b fresh ahead)) : ∃ va vcap, v = .slice va 2 vcap := by
  obtain ⟨va, vcap, hv⟩ := h.row.shape
  rw [twoC_len] at hv
  exact ⟨va, vcap, hv⟩
theorem own2_lt {W : World} {base cap : Nat} {a : Option Addr} {ps : List C} (h : OwnC W base (.slice a 2 cap) ps) : base < W.heap.size := by
  rcases h.2 with ⟨h1, -⟩ | ⟨g, cap', cur, h1, hb, hg, -⟩
  · cases h1
  · have := lt_of_block hg; omega
theorem mid_a {w W W11 W6 : World} {c d : C} {t' : T} {v : Value} {ps : List C} {base : Nat} (h : LSt w c W) (hs : Stands (SpE w v ps) W W11.heap.size W.heap.size d t') (hz : Zero7 W W6.heap.size) (h2 : w.heap.size + 2 < W6.heap.size) (hlo : W6.heap.size < W11.heap.size) (hrow : OwnC W base v ps) (hbase : W6.heap.size < base) : Mid w c W6.heap.size d t' (put7 W W6.heap.size d) :=
  mid_put h hs hz h2 hlo hrow fun g hg => by have := own_block hrow hg; omega
theorem mid_b {w W W11 : World} {c d : C} {t' : T} {v : Value} {ps : List C} {base : Nat} (h : LSt w c W) (hs : Stands (SpE w v ps) W (W11.alloc zeroBox).heap.size W.heap.size d t') (hz : Zero7 W W11.heap.size) (h2 : w.heap.size + 2 < W11.heap.size) (hrow1 : OwnC W11 base v ps) (hrow : OwnC W base v ps) : Mid w c W11.heap.size d t' (put7 W W11.heap.size d) :=
  mid_put h hs hz h2 (by simp) hrow fun g hg => by have := own_block hrow1 hg; omega

set_option maxHeartbeats 4000000 in
set_option maxRecDepth 100000 in
theorem rleaf_any (t : T) (c : C) (id ax z fresh : Int) (ahead : Bool) (w : World) (hm : sz t ≤ 20000) (hi : Is w c t) (hz : fits z) (hfr : fits fresh) :
    Calls Tryz.prog 8 #[cval c, .int .i64 id, .int .u8 ax, .int .i64 z, .int .i64 fresh, .bool ahead] w (SpSays t id ax z fresh ahead .i64 w) := by
  have L0 := Lib.hid (LSt.start w c)
  have HT := Lib.hid (rtiles8_any t c (startW w c) (L0.out.is hi) hm)
  have HI := Lib.hid hi
  have HM := Lib.hid hm
  have HZ := Lib.hid hz
  have HF := Lib.hid hfr
  clear hi hm hz hfr
  obtain ⟨c0, c1, c2, c3, c4, c5, c6⟩ := c7_of L0.out.box.cat
  go_enter Tryz.func8, Tryz.ntmps8
  go_wp2_with fail
  refine HT.out.mono ?_
  rintro e w1 ⟨rfl, hb1⟩
  have L1 := Lib.hid (L0.out.up hb1)
  clear hb1 c0 c1 c2 c3 c4 c5 c6 HT
  obtain ⟨c0, c1, c2, c3, c4, c5, c6⟩ := c7_of L1.out.box.cat
  obtain ⟨n0, n1, n2, n3, n4, n5, n6⟩ := c7_of L1.out.none.cat
  obtain ⟨⟨z0, z1, z2, z3, z4, z5, z6⟩, f0, f1, f2, f3, f4, f5, f6⟩ := zero_parts L1.out.zero
  by_cases hok : tileB t = true ∧ axB ax = true ∧ 0 ≤ z ∧ 0 ≤ fresh ∧ fresh ≤ 2147483647
  · have HOK := Lib.hid hok
    obtain ⟨ht, hax, hz0, hf0, hf1⟩ := hok
    obtain ⟨d1, d2⟩ := ax_tests hax
    have d3 : decide (z < 0) = false := decide_eq_false (by omega)
    have d4 : decide (fresh < 0) = false := decide_eq_false (by omega)
    have d5 : decide (2147483647 < fresh) = false := decide_eq_false (by omega)
    rw [ht]
    have HAX := Lib.hid ((axB_iff ax).1 hax)
    have HZ0 := Lib.hid hz0
    clear ht hax hz0 hf0 hf1
    have HFR := Lib.hid (rfindL_any fresh t c w1 (by have := HM.out; omega) (L1.out.is HI.out))
    go_wp2_with fail
    refine HFR.out.mono ?_
    rintro e w2 ⟨df, rfl, -, hb2⟩
    have L2' := Lib.hid (L1.out.up hb2)
    clear hb2 c0 c1 c2 c3 c4 c5 c6 n0 n1 n2 n3 n4 n5 n6 z0 z1 z2 z3 z4 z5 z6 f0 f1 f2 f3 f4 f5 f6 d1 d2 d3 d4 d5 HFR L1
    have hb2' : Below w2.heap.size w2 (w2.alloc (cbox df)) := (Below.refl _ _).alloc (Nat.le_refl _) _
    have L3 := Lib.hid (L2'.out.up hb2')
    clear hb2' L2'
    cases hdf : (lfF fresh t).isSome with
    | true =>
      have HE := Lib.hid (sp_dup (id := id) (ahead := ahead) HOK.out hdf)
      obtain ⟨n0, n1, n2, n3, n4, n5, n6⟩ := c7_of L3.out.none.cat
      obtain ⟨⟨z0, z1, z2, z3, z4, z5, z6⟩, f0, f1, f2, f3, f4, f5, f6⟩ := zero_parts L3.out.zero
      go_wp2
      (try simp only [Exit.inBlock, Exit.then])
      refine bodyPost_ret (results_c2 rfl _ _ (w.heap.size + 1) noC rfl ((Box7.of_zero L3.out.zero).put noC)) rfl ?_
      exact sp_err HE.out (by decide) (below_put7 L3.out.below (by omega) noC)
    | false =>
      have HDF := Lib.hid hdf
      have HFI := Lib.hid (rfindL_any id t c (w2.alloc (cbox df)) (by have := HM.out; omega) (L3.out.is HI.out))
      obtain ⟨c0, c1, c2, c3, c4, c5, c6⟩ := c7_of L3.out.box.cat
      clear hdf
      go_wp2_with fail
      refine HFI.out.mono ?_
      rintro e w4 ⟨lc, rfl, hlc, hb4⟩
      have L4 := Lib.hid (L3.out.up hb4)
      clear hb4 c0 c1 c2 c3 c4 c5 c6 HFI L3
      have hb4' : Below w4.heap.size w4 (w4.alloc (cbox lc)) := (Below.refl _ _).alloc (Nat.le_refl _) _
      have L5 : Hid (L2 w c w4.heap.size lc (w4.alloc (cbox lc))) := Lib.hid ⟨L4.out.up hb4', Box7.new w4 lc⟩
      have HB45 := Lib.hid L4.out.below
      clear hb4' L4
      cases hl : lfF id t with
      | none =>
        have HE := Lib.hid (sp_none (ahead := ahead) HOK.out HDF.out hl)
        obtain ⟨n0, n1, n2, n3, n4, n5, n6⟩ := c7_of L5.out.st.none.cat
        obtain ⟨⟨z0, z1, z2, z3, z4, z5, z6⟩, f0, f1, f2, f3, f4, f5, f6⟩ := zero_parts L5.out.st.zero
        have hs : (none : Option T).isSome = false := rfl
        go_wp2
        (try simp only [Exit.inBlock, Exit.then])
        refine bodyPost_ret (results_c2 rfl _ _ (w.heap.size + 1) noC rfl ((Box7.of_zero L5.out.st.zero).put noC)) rfl ?_
        exact sp_err HE.out (by decide) (below_put7 L5.out.st.below (by omega) noC)
      | some u =>
        rw [hl] at hlc
        have hsp : Is w4 lc u := hlc
        obtain ⟨hu1, hu2, hu3⟩ := lf_leaf hl
        have HE := Lib.hid (sp_some (ahead := ahead) HOK.out HDF.out hl)
        have HST := Lib.hid (show spT t id ax z fresh ahead = setT t.r.x t.r.y (inT id ax (bothT u ax z fresh ahead) t) by unfold spT; rw [hl])
        have hs : (some u : Option T).isSome = true := rfl
        obtain ⟨e1, e2, e3, hfine, -⟩ := hsp.split
        obtain ⟨lk, lr, li, la, ln, lcap⟩ := lc
        simp only at e1 e2 e3
        have hlk : lk = 1 := e1.symm.trans hu1
        subst hlk
        have HLR := Lib.hid e2
        have HLI := Lib.hid e3
        have HLF := Lib.hid hfine
        have HSI := Lib.hid (rsize_any lr ax)
        clear hl hlc hsp hu1 hu2 hu3 e1 e2 e3 hfine
        obtain ⟨q0, q1, q2, q3, q4, q5, q6⟩ := c7_of L5.out.leaf.cat
        go_wp2_with fail
        refine (HSI.out _).mono ?_
        rintro e w6 ⟨rfl, hb6⟩
        have L6 := Lib.hid (L5.out.up hb6)
        clear hb6 q0 q1 q2 q3 q4 q5 q6
        by_cases hs3 : szA lr ax < 3
        · have ds3 : decide (szA lr ax < 3) = true := decide_eq_true hs3
          have HE7 := Lib.hid (HE.out.trans (if_pos (by rw [HLR.out]; exact hs3)))
          obtain ⟨n0, n1, n2, n3, n4, n5, n6⟩ := c7_of L6.out.st.none.cat
          obtain ⟨⟨z0, z1, z2, z3, z4, z5, z6⟩, f0, f1, f2, f3, f4, f5, f6⟩ := zero_parts L6.out.st.zero
          clear hs3
          go_wp2
          (try simp only [Exit.inBlock, Exit.then])
          refine bodyPost_ret (results_c2 rfl _ _ (w.heap.size + 1) noC rfl ((Box7.of_zero L6.out.st.zero).put noC)) rfl ?_
          exact sp_err HE7.out (by decide) (below_put7 L6.out.st.below (by omega) noC)
        · have ds3 : decide (szA lr ax < 3) = false := decide_eq_false hs3
          have HE8 := Lib.hid (HE.out.trans (if_neg (by rw [HLR.out]; exact hs3)))
          have HS3 := Lib.hid (show 3 ≤ szA lr ax by omega)
          clear hs3
          have hlr : lr.fits := HLF.out.2.1
          have hli : fits li := HLF.out.2.2.1
          have hsa : fits (szA lr ax) := by
            obtain ⟨-, -, h3, h4⟩ := hlr
            rcases HAX.out with rfl | rfl
            · exact h3
            · exact h4
          have HBOTH := Lib.hid (fun W => rboth_any lr li ax z fresh ahead la ln lcap W hlr HS3.out HZ0.out HZ.out HAX.out)
          have hin := spB_in HS3.out HZ0.out
          have HTOPS := Lib.hid (fun W => two_tops W (r := lr) (id := li) (ax := ax) (a := szA lr ax - 1 - spB (szA lr ax) z) (b := spB (szA lr ax) z) (fresh := fresh) (ahead := ahead) hlr hli (by unfold fits at *; omega) (by unfold fits at *; omega) HF.out)
          have HLEN := Lib.hid (twoL_len lr li ax (szA lr ax - 1 - spB (szA lr ax) z) (spB (szA lr ax) z) fresh ahead)
          have HSZL := Lib.hid (twoL_sz lr li ax (szA lr ax - 1 - spB (szA lr ax) z) (spB (szA lr ax) z) fresh ahead)
          have HBT := Lib.hid (show bothT u ax z fresh ahead = twoL lr li ax (szA lr ax - 1 - spB (szA lr ax) z) (spB (szA lr ax) z) fresh ahead by unfold bothT; rw [HLR.out, HLI.out])
          have HSHAPE := Lib.hid (fun (W : World) (base : Nat) (v : Value) (h : OwnC W base v (twoC lr li ax (szA lr ax - 1 - spB (szA lr ax) z) (spB (szA lr ax) z) fresh ahead)) => two_shape h)
          generalize twoC lr li ax (szA lr ax - 1 - spB (szA lr ax) z) (spB (szA lr ax) z) fresh ahead = ps at HBOTH HTOPS HSHAPE
          generalize twoL lr li ax (szA lr ax - 1 - spB (szA lr ax) z) (spB (szA lr ax) z) fresh ahead = ls at HTOPS HLEN HBT HSZL
          rw [HBT.out] at HE8 HST
          have hszt : sz (inT id ax ls t) ≤ 60000 := by have := inT_sz id ax ls HSZL.out t; have := HM.out; omega
          have HSZT := Lib.hid hszt
          have HIN := Lib.hid (fun (va : Option Addr) (vcap : Nat) (W : World) (h1 : Below w.heap.size w W) (h2 : SpE w (.slice va 2 vcap) ps W) => rin_any (SpE w (.slice va 2 vcap) ps) w (fun _ h => h.1) SpE.up id ax va vcap ps ls HAX.out (fun _ h => h.2) HTOPS.out HLEN.out (sz t) t c W (Nat.le_refl _) (by have := HM.out; omega) HI.out h1 h2)
          generalize inT id ax ls t = t' at HE8 HST HSZT HIN
          have D0 : Hid (L2 w c w4.heap.size ⟨1, lr, li, la, ln, lcap⟩ w6.drew) := Lib.hid (L6.out.up (Below.refl _ _).drew)
          have Dz : Hid (L2 w c w4.heap.size ⟨1, lr, li, la, ln, lcap⟩ (w6.alloc zeroBox).drew) := Lib.hid (L6.out.up ((Below.refl _ _).alloc (Nat.le_refl _) _).drew)
          have ZZ : Hid (Zero7 (w6.alloc zeroBox).drew w6.heap.size) := Lib.hid (zero_new w6)
          have X0 := Lib.hid D0.out.c14
          have X0z := Lib.hid Dz.out.c14
          have HW6 : Hid (w.heap.size + 2 < w6.heap.size) := Lib.hid (by
            have := lt_of_block L6.out.leaf
            have h2 := lt_of_block L5.out.st.none
            have h4 : (w4.alloc (cbox ⟨1, lr, li, la, ln, lcap⟩)).heap.size = w4.heap.size + 1 := by simp
            rw [h4] at h2
            show w.heap.size + 2 < w6.heap.size
            omega)
          have HCR := Lib.hid HI.out.split.2.1
          have HCF := Lib.hid HI.out.fine.2.1
          have HW4 : Hid (w4.heap.size < w6.heap.size) := Lib.hid (lt_of_block L6.out.leaf)
          clear hin hlr hli hsa hszt HLF HSI
          go_wp2_with fail
          go_region_held3 (fun W => (W.cell? ⟨w.heap.size, 0, none⟩ = some (.int .u8 c.k) ∧ W.cell? ⟨w.heap.size, 1, none⟩ = some (.int .i64 c.r.x) ∧ W.cell? ⟨w.heap.size, 2, none⟩ = some (.int .i64 c.r.y) ∧ W.cell? ⟨w.heap.size, 3, none⟩ = some (.int .i64 c.r.w) ∧ W.cell? ⟨w.heap.size, 4, none⟩ = some (.int .i64 c.r.h) ∧ W.cell? ⟨w.heap.size, 5, none⟩ = some (.int .i64 c.id) ∧ W.cell? ⟨w.heap.size, 6, none⟩ = some (.slice c.a c.n c.cap)) ∧ W.cell? ⟨w4.heap.size, 0, none⟩ = some (.int .u8 1) ∧ W.cell? ⟨w4.heap.size, 1, none⟩ = some (.int .i64 lr.x) ∧ W.cell? ⟨w4.heap.size, 2, none⟩ = some (.int .i64 lr.y) ∧ W.cell? ⟨w4.heap.size, 3, none⟩ = some (.int .i64 lr.w) ∧ W.cell? ⟨w4.heap.size, 4, none⟩ = some (.int .i64 lr.h) ∧ W.cell? ⟨w4.heap.size, 5, none⟩ = some (.int .i64 li) ∧ W.cell? ⟨w4.heap.size, 6, none⟩ = some (.slice la ln lcap)) (first | with_reducible exact X0.out | with_reducible exact X0z.out | with_reducible exact X11.out | with_reducible exact X12.out | with_reducible exact X13.out | with_reducible exact c14_alloc X0.out _ | with_reducible exact c14_alloc X11.out _ | with_reducible exact c14_alloc X12.out _)
            (first
              | (go_at_call 25; (with_reducible refine (HBOTH.out w6.drew).mono ?_); rintro e w11 ⟨v11, rfl, hown, hb⟩; obtain ⟨va, vcap, rfl⟩ := HSHAPE.out _ _ _ hown; have D11 := Lib.hid (D0.out.up hb); have R11 := Lib.hid hown; have X11 := Lib.hid D11.out.c14; have NZ := Lib.hid True.intro; clear hown hb)
              | (go_at_call 25; (with_reducible refine (HBOTH.out (w6.alloc zeroBox).drew).mono ?_); rintro e w11 ⟨v11, rfl, hown, hb⟩; obtain ⟨va, vcap, rfl⟩ := HSHAPE.out _ _ _ hown; have D11 := Lib.hid (Dz.out.up hb); have R11 := Lib.hid hown; have X11 := Lib.hid D11.out.c14; have Z11 := Lib.hid (zero_up ZZ.out hb); have Y11 := Lib.hid hb.size; clear hown hb)
              | (go_at_call 24; have Z11' := Z11; (with_reducible refine (HIN.out va vcap w11 D11.out.st.below (spE_mk D11.out.st.below R11.out)).mono ?_); rintro e w12 ⟨d, rfl, hst, hb⟩; have D12 := Lib.hid (D11.out.up hb); have G12 := Lib.hid hst; have Z12 := Lib.hid (zero_up Z11.out hb); have R12 := Lib.hid (R11.out.up hb); have X12 := Lib.hid D12.out.c14; have X13 := Lib.hid (c14_put7 (x := d) X12.out (Nat.ne_of_lt (ltA HW6.out)) (Nat.ne_of_lt HW4.out)); obtain ⟨⟨z0, z1, z2, z3, z4, z5, z6⟩, f0, f1, f2, f3, f4, f5, f6⟩ := zero_parts Z12.out; clear hst hb)
              | (go_at_call 24; have NZ' := NZ; (with_reducible refine (HIN.out va vcap w11 D11.out.st.below (spE_mk D11.out.st.below R11.out)).mono ?_); rintro e w12 ⟨d, rfl, hst, hb⟩; have D12 := Lib.hid (D11.out.up hb); have G12 := Lib.hid hst; have R12 := Lib.hid (R11.out.up hb); have X12 := Lib.hid D12.out.c14; clear hst hb)
              | (go_at_call 24; have NZ' := NZ; have DA := Lib.hid (D11.out.up ((Below.refl w11.heap.size w11).alloc (Nat.le_refl _) zeroBox)); have RA := Lib.hid (R11.out.up ((Below.refl w11.heap.size w11).alloc (Nat.le_refl _) zeroBox)); (with_reducible refine (HIN.out va vcap (w11.alloc zeroBox) DA.out.st.below (spE_mk DA.out.st.below RA.out)).mono ?_); rintro e w12 ⟨d, rfl, hst, hb⟩; have D12 := Lib.hid (DA.out.up hb); have G12 := Lib.hid hst; have Z12 := Lib.hid (zero_up (zero_new w11) hb); have R12 := Lib.hid (RA.out.up hb); have X12 := Lib.hid D12.out.c14; have X13 := Lib.hid (c14_put7 (x := d) X12.out (Nat.ne_of_lt (lt_of_block D11.out.st.box)) (Nat.ne_of_lt (lt_of_block D11.out.leaf))); obtain ⟨⟨z0, z1, z2, z3, z4, z5, z6⟩, f0, f1, f2, f3, f4, f5, f6⟩ := zero_parts Z12.out; clear hst hb))
          all_goals first
            | have P := Lib.hid (mid_a D12.out.st G12.out Z12.out HW6.out (Nat.lt_of_lt_of_le (by simp) Y11.out) R12.out (by simp))
            | have P := Lib.hid (mid_b D12.out.st G12.out Z12.out (Nat.lt_trans HW6.out (own2_lt R11.out)) R11.out R12.out)
            | have P := Lib.hid (mid_new D12.out.st (G12.out.is (spE_mk D12.out.st.below R12.out)))
          all_goals
            obtain ⟨q0, q1, q2, q3, q4, q5, q6⟩ := c7_of P.out.cat
            have HAL := Lib.hid (rall_any _ (sz t') t' d _ (Nat.le_refl _) (by have := HSZT.out; omega) P.out.is (Below.refl _ _))
            go_wp2_with fail
            refine HAL.out.mono ?_
            rintro e w13 ⟨v13, al, rfl, hown13, htop13, hb13⟩
            have P13 := Lib.hid (P.out.up hb13)
            have hal : al.length = sz t' := by rw [htop13.1, preT_len]
            obtain ⟨a13, cap13, rfl⟩ := hown13.row.shape
            clear hb13 hown13 htop13 q0 q1 q2 q3 q4 q5 q6 HAL P
            rw [hal]
            clear hal
            by_cases hcap : 20000 < sz t'
            · have dcap : decide ((20000 : Int) < (sz t' : Int)) = true := decide_eq_true (by omega)
              have HE9 := Lib.hid (HE8.out.trans (if_pos hcap))
              obtain ⟨n0, n1, n2, n3, n4, n5, n6⟩ := c7_of P13.out.st.none.cat
              obtain ⟨⟨z0, z1, z2, z3, z4, z5, z6⟩, f0, f1, f2, f3, f4, f5, f6⟩ := zero_parts P13.out.st.zero
              clear hcap
              go_wp2
              (try simp only [Exit.inBlock, Exit.then])
              refine bodyPost_ret (results_c2 rfl _ _ (w.heap.size + 1) noC rfl ((Box7.of_zero P13.out.st.zero).put noC)) rfl ?_
              exact sp_err HE9.out (by decide) (below_put7 P13.out.st.below (by omega) noC)
            · have dcap : decide ((20000 : Int) < (sz t' : Int)) = false := decide_eq_false (by omega)
              have HE9 := Lib.hid (HE8.out.trans (if_neg hcap))
              have HSET := Lib.hid (rset_any (sz t') t' d c.r.x c.r.y w13 (Nat.le_refl _) HCF.out.1 HCF.out.2.1 P13.out.is)
              obtain ⟨q0, q1, q2, q3, q4, q5, q6⟩ := c7_of P13.out.cat
              obtain ⟨c0, c1, c2, c3, c4, c5, c6⟩ := c7_of P13.out.st.box.cat
              clear hcap
              go_wp2_with fail
              refine HSET.out.mono ?_
              rintro e w14 ⟨d2, S2, rfl, hown2, -, hb14⟩
              have P14 := Lib.hid (P13.out.up hb14)
              have HO2 := Lib.hid hown2
              have HLT : Hid (w.heap.size + 1 < w13.heap.size) := Lib.hid (lt_of_block P13.out.st.zero)
              clear hown2 hb14 q0 q1 q2 q3 q4 q5 q6 c0 c1 c2 c3 c4 c5 c6
              obtain ⟨⟨z0, z1, z2, z3, z4, z5, z6⟩, f0, f1, f2, f3, f4, f5, f6⟩ := zero_parts P14.out.st.zero
              go_wp2
              (try simp only [Exit.inBlock, Exit.then])
              refine bodyPost_ret (results_c2 rfl _ _ (w.heap.size + 1) d2 rfl ((Box7.of_zero P14.out.st.zero).put d2)) rfl ?_
              refine sp_ok HE9.out (HST.out.trans (by rw [HCR.out])) (HO2.out.frame fun k hk => heap_put7 ?_).is (below_put7 P14.out.st.below (by omega) d2)
              have := (HO2.out.ge k hk).1
              have := HLT.out
              omega

  · have HE := Lib.hid (sp_arg (id := id) (ahead := ahead) hok)
    have hcase : tileB t = false ∨ (tileB t = true ∧ decide (ax < 1) = true) ∨ (tileB t = true ∧ decide (ax < 1) = false ∧ decide (2 < ax) = true) ∨ (tileB t = true ∧ decide (ax < 1) = false ∧ decide (2 < ax) = false ∧ decide (z < 0) = true) ∨ (tileB t = true ∧ decide (ax < 1) = false ∧ decide (2 < ax) = false ∧ decide (z < 0) = false ∧ decide (fresh < 0) = true) ∨ (tileB t = true ∧ decide (ax < 1) = false ∧ decide (2 < ax) = false ∧ decide (z < 0) = false ∧ decide (fresh < 0) = false ∧ decide (2147483647 < fresh) = true) := by
      cases h1 : tileB t with
      | false => exact .inl rfl
      | true =>
        simp only [decide_eq_true_eq, decide_eq_false_iff_not, true_and, Bool.true_eq_false, false_or]
        have := axB_iff ax
        by_cases ha : axB ax = true
        · have h2 := this.1 ha
          rw [h1] at hok
          simp only [true_and, ha] at hok
          omega
        · have h2 : ¬ (ax = 1 ∨ ax = 2) := fun h => ha (this.2 h)
          omega
    clear hok
    rcases hcase with h1 | ⟨h1, d1⟩ | ⟨h1, d1, d2⟩ | ⟨h1, d1, d2, d3⟩ | ⟨h1, d1, d2, d3, d4⟩ | ⟨h1, d1, d2, d3, d4, d5⟩
    all_goals
      rw [h1]
      go_wp2
      (try simp only [Exit.inBlock, Exit.then])
      refine bodyPost_ret (results_c2 rfl _ _ (w.heap.size + 1) noC rfl ((Box7.of_zero L1.out.zero).put noC)) rfl ?_
      exact sp_err HE.out (by decide) (below_put7 L1.out.below (by omega) noC)
end Go.Proofs.YtlaiggnkgdomkaaGreat
/- Adjust: the document's answer. -/
namespace Go.Proofs.YtlaiggnkgdomkaaGreat
open Go.RowKit

/-- What the call keeps: its tree's box, its answer's. -/
structure ASt (w : World) (c : C) (W : World) : Prop where
  below : Below w.heap.size w W
  box : Box7 W w.heap.size c
  zero : Zero7 W (w.heap.size + 1)
theorem ASt.up {w W W' : World} {c : C} (h : ASt w c W) (hb : Below W.heap.size W W') : ASt w c W' := ⟨h.below.trans (hb.mono h.below.size), h.box.up hb, zero_up h.zero hb⟩
theorem ASt.start (w : World) (c : C) : ASt w c (cellW w c) := ⟨cellW_below w c, cellW_box w c, cellW_zero w c⟩
theorem ASt.is {w W : World} {c : C} {t : T} (h : ASt w c W) (hi : Is w c t) : Is W c t := hi.up h.below
theorem c7_up {b : Nat} {c : C} {W W' : World} (h : C7 b c W) (hb : Below W.heap.size W W') : C7 b c W' := by
  obtain ⟨a0, a1, a2, a3, a4, a5, a6⟩ := h
  exact ⟨(hb.cell (lt_of_cell a0)).trans a0, (hb.cell (lt_of_cell a1)).trans a1, (hb.cell (lt_of_cell a2)).trans a2, (hb.cell (lt_of_cell a3)).trans a3, (hb.cell (lt_of_cell a4)).trans a4, (hb.cell (lt_of_cell a5)).trans a5, (hb.cell (lt_of_cell a6)).trans a6⟩
theorem c7_put7 {b k : Nat} {c x : C} {W : World} (h : C7 b c W) (h1 : b ≠ k) : C7 b c (put7 W k x) := by
  have g1 : ∀ o, (put7 W k x).cell? ⟨b, o, none⟩ = W.cell? ⟨b, o, none⟩ := fun o => World.cell?_of_block (a := ⟨b, o, none⟩) (heap_put7 h1)
  obtain ⟨a0, a1, a2, a3, a4, a5, a6⟩ := h
  exact ⟨(g1 _).trans a0, (g1 _).trans a1, (g1 _).trans a2, (g1 _).trans a3, (g1 _).trans a4, (g1 _).trans a5, (g1 _).trans a6⟩
/-- The answer's box is written: what stands behind it still does. -/
theorem stands_put {w W W0 : World} {c d : C} {base : Nat} {t : T} {S : List Nat} (h : ASt w c W) (ho : OwnT W base d t S) (hb : base = W0.heap.size) (hlt : w.heap.size + 1 < W0.heap.size) :
    Stands (fun _ => True) (put7 W (w.heap.size + 1) d) w.heap.size (put7 W (w.heap.size + 1) d).heap.size d t := by
  rw [size_put7]
  refine (ho.stands.move (w2 := put7 W (w.heap.size + 1) d) fun k hk _ => heap_put7 (by omega)).wide (by omega) (Nat.le_refl _)

end Go.Proofs.YtlaiggnkgdomkaaGreat
