/- Texts of this seat, 3 in one file. -/
import Derived.Test.YtbbjnimadnbmnaaGreatG30
import Derived.Test.YtbbjnimadnbmnaaGreatG26
import Derived.Test.YtbbjnimadnbmnaaGreatG23
import Derived.Test.YtbbjnimadnbmnaaGreatG24
import Derived.Test.YtbbjnimadnbmnaaGreatG20
/- weigh: what each cell of a tree can give. -/
namespace Go.Proofs.YtbbjnimadnbmnaaGreat
open Go.RowKit

abbrev zG : G := ⟨⟨0, ⟨0, 0, 0, 0⟩, 0, none, 0, 0⟩, 0, none, 0, 0⟩
abbrev put9 (w : World) (b : Nat) (x : G) : World := ((((((((w.setCell ⟨b, 0, none⟩ (.int .u8 x.c.k)).setCell ⟨b, 1, none⟩ (.int .i64 x.c.r.x)).setCell ⟨b, 2, none⟩ (.int .i64 x.c.r.y)).setCell ⟨b, 3, none⟩ (.int .i64 x.c.r.w)).setCell ⟨b, 4, none⟩ (.int .i64 x.c.r.h)).setCell ⟨b, 5, none⟩ (.int .i64 x.c.id)).setCell ⟨b, 6, none⟩ (.slice x.c.a x.c.n x.c.cap)).setCell ⟨b, 7, none⟩ (.int .i64 x.g)).setCell ⟨b, 8, none⟩ (.slice x.a x.n x.cap)
theorem heap_put9 {w : World} {b k : Nat} {x : G} (h : k ≠ b) : (put9 w b x).heap[k]? = w.heap[k]? := by
  unfold put9
  rw [Below.heap_setCell _ ⟨b, 8, none⟩ _ k h, Below.heap_setCell _ ⟨b, 7, none⟩ _ k h, Below.heap_setCell _ ⟨b, 6, none⟩ _ k h, Below.heap_setCell _ ⟨b, 5, none⟩ _ k h, Below.heap_setCell _ ⟨b, 4, none⟩ _ k h, Below.heap_setCell _ ⟨b, 3, none⟩ _ k h, Below.heap_setCell _ ⟨b, 2, none⟩ _ k h, Below.heap_setCell _ ⟨b, 1, none⟩ _ k h, Below.heap_setCell _ ⟨b, 0, none⟩ _ k h]
theorem size_put9 (w : World) (b : Nat) (x : G) : (put9 w b x).heap.size = w.heap.size := by simp [World.setCell]
theorem below_put9 {B : Nat} {w w' : World} (h : Below B w w') {b : Nat} (hb : B ≤ b) (x : G) : Below B w (put9 w' b x) := ((((((((h.setCell hb _).setCell hb _).setCell hb _).setCell hb _).setCell hb _).setCell hb _).setCell hb _).setCell hb _).setCell hb _
theorem Box9.put {w : World} {b : Nat} {y : G} (h : Box9 w b y) (x : G) : Box9 (put9 w b x) b x := by
  have h' : w.heap[b]? = some (gbox y) := h
  have h1 := set_block (i := 0) h' (.int .u8 x.c.k)
  have h2 := set_block (i := 1) h1 (.int .i64 x.c.r.x)
  have h3 := set_block (i := 2) h2 (.int .i64 x.c.r.y)
  have h4 := set_block (i := 3) h3 (.int .i64 x.c.r.w)
  have h5 := set_block (i := 4) h4 (.int .i64 x.c.r.h)
  have h6 := set_block (i := 5) h5 (.int .i64 x.c.id)
  have h7 := set_block (i := 6) h6 (.slice x.c.a x.c.n x.c.cap)
  have h8 := set_block (i := 7) h7 (.int .i64 x.g)
  have h9 := set_block (i := 8) h8 (.slice x.a x.n x.cap)
  refine h9.trans ?_
  simp
theorem c7_put9 {b k : Nat} {c : C} {x : G} {W : World} (h : C7 b c W) (h1 : b ≠ k) : C7 b c (put9 W k x) := by
  have g1 : ∀ o, (put9 W k x).cell? ⟨b, o, none⟩ = W.cell? ⟨b, o, none⟩ := fun o => World.cell?_of_block (a := ⟨b, o, none⟩) (heap_put9 h1)
  obtain ⟨a0, a1, a2, a3, a4, a5, a6⟩ := h
  exact ⟨(g1 _).trans a0, (g1 _).trans a1, (g1 _).trans a2, (g1 _).trans a3, (g1 _).trans a4, (g1 _).trans a5, (g1 _).trans a6⟩
theorem c7_alloc {b : Nat} {c : C} {W : World} (h : C7 b c W) (o : Obj) : C7 b c (W.alloc o) := by
  have hb : Below W.heap.size W (W.alloc o) := (Below.refl _ _).alloc (Nat.le_refl _) _
  obtain ⟨a0, a1, a2, a3, a4, a5, a6⟩ := h
  exact ⟨(hb.cell (lt_of_cell a0)).trans a0, (hb.cell (lt_of_cell a1)).trans a1, (hb.cell (lt_of_cell a2)).trans a2, (hb.cell (lt_of_cell a3)).trans a3, (hb.cell (lt_of_cell a4)).trans a4, (hb.cell (lt_of_cell a5)).trans a5, (hb.cell (lt_of_cell a6)).trans a6⟩
theorem g9_parts {w : World} {b : Nat} {x : G} (h : Box9 w b x) : (w.cell? ⟨b, 0, none⟩ = some (.int .u8 x.c.k) ∧ w.cell? ⟨b, 1, none⟩ = some (.int .i64 x.c.r.x) ∧ w.cell? ⟨b, 2, none⟩ = some (.int .i64 x.c.r.y) ∧ w.cell? ⟨b, 3, none⟩ = some (.int .i64 x.c.r.w) ∧ w.cell? ⟨b, 4, none⟩ = some (.int .i64 x.c.r.h) ∧ w.cell? ⟨b, 5, none⟩ = some (.int .i64 x.c.id) ∧ w.cell? ⟨b, 6, none⟩ = some (.slice x.c.a x.c.n x.c.cap) ∧ w.cell? ⟨b, 7, none⟩ = some (.int .i64 x.g) ∧ w.cell? ⟨b, 8, none⟩ = some (.slice x.a x.n x.cap)) ∧
    (w.frozen? ⟨b, 0, none⟩ = false ∧ w.frozen? ⟨b, 1, none⟩ = false ∧ w.frozen? ⟨b, 2, none⟩ = false ∧ w.frozen? ⟨b, 3, none⟩ = false ∧ w.frozen? ⟨b, 4, none⟩ = false ∧ w.frozen? ⟨b, 5, none⟩ = false ∧ w.frozen? ⟨b, 6, none⟩ = false ∧ w.frozen? ⟨b, 7, none⟩ = false ∧ w.frozen? ⟨b, 8, none⟩ = false) := by
  obtain ⟨a0, a1, a2, a3, a4, a5, a6, a7, a8⟩ := h.cat
  simp only [Nat.zero_add] at a1 a2 a3 a4 a5 a6 a7 a8
  exact ⟨⟨a0, a1, a2, a3, a4, a5, a6, a7, a8⟩, h.free 0, h.free 1, h.free 2, h.free 3, h.free 4, h.free 5, h.free 6, h.free 7, h.free 8⟩
theorem results_g1 {fn : Func} {p : Tmp} (h : fn.results = #[.cell p 99]) (tmps : Array Value) (w : World) (g : Nat) (x : G) (hp : tmps.getD p undef = .pointer (some ⟨g, 0, none⟩)) (hg : Box9 w g x) :
    (results fn tmps).run Tryz.prog w = .ok (gval x) w :=
  results_cell_row h tmps w g 99 _ (0, 0) _ hp hg Tryz.underlying99 rfl (by kernel_rfl)

/-- What the call keeps: its tree's box, its answer's, its giver's. -/
structure WSt (w : World) (c : C) (bg : Nat) (x : G) (W : World) : Prop where
  below : Below w.heap.size w W
  box : Box7 W w.heap.size c
  zero : Box9 W (w.heap.size + 1) zG
  giv : Box9 W bg x
  far : w.heap.size + 1 < bg
theorem WSt.up {w W W' : World} {c : C} {bg : Nat} {x : G} (h : WSt w c bg x W) (hb : Below W.heap.size W W') : WSt w c bg x W' := ⟨h.below.trans (hb.mono h.below.size), h.box.up hb, h.zero.up hb, h.giv.up hb, h.far⟩
abbrev weW (w : World) (c : C) : World := (w.alloc (cbox c)).alloc (gbox zG)
structure W0St (w : World) (c : C) (W : World) : Prop where
  below : Below w.heap.size w W
  box : Box7 W w.heap.size c
  zero : Box9 W (w.heap.size + 1) zG
  size : w.heap.size + 2 ≤ W.heap.size
theorem W0St.up {w W W' : World} {c : C} (h : W0St w c W) (hb : Below W.heap.size W W') : W0St w c W' := ⟨h.below.trans (hb.mono h.below.size), h.box.up hb, h.zero.up hb, Nat.le_trans h.size hb.size⟩
theorem W0St.start (w : World) (c : C) : W0St w c (weW w c) := by
  have h2 : Below (w.alloc (cbox c)).heap.size (w.alloc (cbox c)) (weW w c) := (Below.refl _ _).alloc (Nat.le_refl _) _
  refine ⟨((Below.refl _ _).alloc (Nat.le_refl _) _).alloc (by simp) _, (Box7.new w c).up h2, ?_, by simp⟩
  have := Box9.new (w.alloc (cbox c)) zG
  simpa using this
theorem wst_new {w W : World} {c : C} (h : W0St w c W) (x : G) : WSt w c W.heap.size x (W.alloc (gbox x)) :=
  have hb : Below W.heap.size W (W.alloc (gbox x)) := (Below.refl _ _).alloc (Nat.le_refl _) _
  ⟨(h.up hb).below, (h.up hb).box, (h.up hb).zero, Box9.new W x, by have := h.size; omega⟩
theorem wst_put {w W : World} {c : C} {b : Nat} (h : W0St w c W) (hz : Box9 W b zG) (hb : w.heap.size + 1 < b) (x : G) : WSt w c b x (put9 W b x) :=
  ⟨below_put9 h.below (by omega) x, (heap_put9 (by omega)).trans h.box, (heap_put9 (by omega)).trans h.zero, hz.put x, hb⟩
theorem WSt.upB {w W W' : World} {c : C} {bg : Nat} {x : G} (h : WSt w c bg x W) (hb : Below (bg + 1) W W') : WSt w c bg x W' := by
  have hf := h.far
  exact ⟨h.below.trans (hb.mono (by omega)), (hb.block _ (by omega)).trans h.box, (hb.block _ (by omega)).trans h.zero, (hb.block _ (by omega)).trans h.giv, hf⟩
theorem wst_row {w W : World} {c : C} {b : Nat} {x : G} (h : WSt w c b x W) (a : Option Addr) (n cap : Nat) : WSt w c b ⟨⟨x.c.k, x.c.r, x.c.id, a, n, cap⟩, x.g, x.a, x.n, x.cap⟩ (W.setCell ⟨b, 6, none⟩ (.slice a n cap)) := by
  have hf := h.far
  exact ⟨h.below.setCell (by show w.heap.size ≤ b; omega) _, (Below.heap_setCell W ⟨b, 6, none⟩ _ _ (by show w.heap.size ≠ b; omega)).trans h.box, (Below.heap_setCell W ⟨b, 6, none⟩ _ _ (by show w.heap.size + 1 ≠ b; omega)).trans h.zero, h.giv.row a n cap, hf⟩
theorem wst_kids {w W : World} {c : C} {b : Nat} {x : G} (h : WSt w c b x W) (a : Option Addr) (n cap : Nat) : WSt w c b ⟨x.c, x.g, a, n, cap⟩ (W.setCell ⟨b, 8, none⟩ (.slice a n cap)) := by
  have hf := h.far
  exact ⟨h.below.setCell (by show w.heap.size ≤ b; omega) _, (Below.heap_setCell W ⟨b, 8, none⟩ _ _ (by show w.heap.size ≠ b; omega)).trans h.box, (Below.heap_setCell W ⟨b, 8, none⟩ _ _ (by show w.heap.size + 1 ≠ b; omega)).trans h.zero, h.giv.kids a n cap, hf⟩
theorem wst_give {w W : World} {c : C} {b : Nat} {x : G} (h : WSt w c b x W) (m : Int) : WSt w c b ⟨x.c, m, x.a, x.n, x.cap⟩ (W.setCell ⟨b, 7, none⟩ (.int .i64 m)) := by
  have hf := h.far
  exact ⟨h.below.setCell (by show w.heap.size ≤ b; omega) _, (Below.heap_setCell W ⟨b, 7, none⟩ _ _ (by show w.heap.size ≠ b; omega)).trans h.box, (Below.heap_setCell W ⟨b, 7, none⟩ _ _ (by show w.heap.size + 1 ≠ b; omega)).trans h.zero, h.giv.give m, hf⟩

theorem gvS_in {ax : Int} (hax : ax = 1 ∨ ax = 2) {l : List T} (h : ∀ u ∈ l, sz u ≤ 20000 ∧ tileB u = true) : 0 ≤ gvS ax l ∧ gvS ax l ≤ 10000 * (l.length : Int) := by
  induction l with
  | nil => simp [gvS]
  | cons t l ih =>
    have h1 := ih fun u hu => h u (List.mem_cons_of_mem _ hu)
    have h2 := h t (List.mem_cons_self ..)
    have h3 := gv_bounds hax h2.1 h2.2
    unfold gvS at *
    rw [List.map_cons, List.sum_cons, List.length_cons]
    omega

/-- What weigh answers. -/
def WeSays (ax : Int) (t : T) (w : World) (e : Ending) (w' : World) : Prop := ∃ x, e = .returned (gval x) ∧ StandsG w' w.heap.size w'.heap.size ax x t ∧ Below w.heap.size w w'
theorem we_end {ax : Int} {t : T} {w W : World} {c : C} {bg : Nat} {k : Int} {r : R} {id gv : Int} {a : Option Addr} {cap : Nat} {gs : List G} {l : List T} (he : t = .node k r id l) (h : WSt w c bg ⟨⟨k, r, id, none, 0, 0⟩, gv, a, gs.length, cap⟩ W) (hg : GroveG W (bg + 1) (.slice a gs.length cap) ax gs l) (hk : 0 ≤ k ∧ k ≤ 255) (hr : r.fits) (hi : fits id) (hgv : gv = gvT ax (.node k r id l)) :
    WeSays ax t w (.returned (gval ⟨⟨k, r, id, none, 0, 0⟩, gv, a, gs.length, cap⟩)) (put9 W (w.heap.size + 1) ⟨⟨k, r, id, none, 0, 0⟩, gv, a, gs.length, cap⟩) := by
  subst he
  have hf := h.far
  refine ⟨_, rfl, ?_, below_put9 h.below (by omega) _⟩
  rw [size_put9]
  exact ((hg.tree hk hr hi hgv).move (w2 := put9 W (w.heap.size + 1) ⟨⟨k, r, id, none, 0, 0⟩, gv, a, gs.length, cap⟩) fun j hj _ => heap_put9 (by omega)).wide (by omega) (Nat.le_refl _)

set_option maxHeartbeats 4000000 in
set_option maxRecDepth 100000 in
theorem weigh_any (ax : Int) (hax : ax = 1 ∨ ax = 2) (N : Nat) : ∀ (t : T) (c : C) (w : World), sz t ≤ N → sz t ≤ 990 → tileB t = true → Is w c t → Calls Tryz.prog 74 #[cval c, .int .u8 ax] w (WeSays ax t w) := by
  induction N with
  | zero => intro t c w h; have := sz_pos t; omega
  | succ N ih =>
    intro t c w hs hm ht hi
    have HAX := Lib.hid hax
    have HI := Lib.hid hi
    have HFINE := Lib.hid hi.fine
    have HR := Lib.hid hi.row
    have hn := hi.n
    have htr := hi.split.2.1
    have htk := hi.split.1
    have hti := hi.split.2.2.1
    have hfn : t.kids.length ≤ 990 := by have := sz_node t; have := szL_len t.kids; omega
    obtain ⟨ck, cr, cid, ca, cn, ccap⟩ := c
    simp only at hn htr htk hti
    subst hn
    have HETA := Lib.hid (show t = .node ck cr cid t.kids by rw [← htk, ← htr, ← hti]; exact T.eta t)
    have hwell := may_rect (well_rect (tile_top (by omega) ht).1)
    rw [htr] at hwell
    have hsz := szA_pos (well_rect (tile_top (show sz t ≤ 20000 by omega) ht).1) hax
    rw [htr] at hsz
    have hws : IntKind.i64.wrap (szA cr ax - 1) = szA cr ax - 1 := wrap_id (by omega)
    have HKT : Hid (∀ (j : Nat) (u : T), t.kids[j]? = some u → sz u ≤ 20000 ∧ tileB u = true ∧ 0 ≤ gvT ax u ∧ gvT ax u ≤ 10000 ∧ (alB ck ax = false → gvT ax u = szA cr ax - lsT ax u)) := Lib.hid fun j u hj => by
      have h1 := sz_kid hj
      have h2 := tile_kid (by omega) ht hj
      have h3 := gv_bounds hax (show sz u ≤ 20000 by omega) h2
      refine ⟨by omega, h2, h3.1, h3.2, fun ha => ?_⟩
      have hk : t.k ≠ 1 := fun h => by
        have := leaf_none (by omega) ht h
        rw [this] at hj; simp at hj
      have h4 := (fit_kids (tile_top (by omega) ht).1 (tile_top (by omega) ht).2 hk ax hax).2 (by rw [htk]; exact ha) j u hj
      unfold gvT
      rw [h4, htr]
    have HSUM : Hid (alB ck ax = true → gvT ax t = gvS ax t.kids) := Lib.hid fun ha => gives_sum hax (by omega) ht (fun h => by rw [htk] at h; rw [al_not h] at ha; cases ha) (by rw [htk]; exact ha)
    have HMIN : Hid (alB ck ax = false → gvT ax t = szA cr ax - max 1 (lsX ax t.kids)) := Lib.hid fun ha => by
      unfold gvT
      rw [ls_no (by rw [htk]; exact ha), htr]
    have HS := Lib.hid hs
    have HM := Lib.hid hm
    have HIH := Lib.hid ih
    clear hi hs hm ht ih htr htk hti hwell hsz hax
    have D0 : Hid (W0St w ⟨ck, cr, cid, ca, t.kids.length, ccap⟩ (weW w ⟨ck, cr, cid, ca, t.kids.length, ccap⟩).drew) := Lib.hid ((W0St.start w _).up (Below.refl _ _).drew)
    have Dz : Hid (W0St w ⟨ck, cr, cid, ca, t.kids.length, ccap⟩ ((weW w ⟨ck, cr, cid, ca, t.kids.length, ccap⟩).alloc (gbox zG)).drew) := Lib.hid ((W0St.start w _).up ((Below.refl _ _).alloc (Nat.le_refl _) _).drew)
    have ZZ : Hid (Box9 ((weW w ⟨ck, cr, cid, ca, t.kids.length, ccap⟩).alloc (gbox zG)).drew (w.heap.size + 2) zG) := Lib.hid (by
      have h := Box9.new (weW w ⟨ck, cr, cid, ca, t.kids.length, ccap⟩) zG
      have h2 : (weW w ⟨ck, cr, cid, ca, t.kids.length, ccap⟩).heap.size = w.heap.size + 2 := by simp
      rw [h2] at h
      exact h)
    have X0 := Lib.hid (c7_of D0.out.box.cat)
    have X0z := Lib.hid (c7_of Dz.out.box.cat)
    go_enter Tryz.func74, Tryz.ntmps74
    go_wp2_with fail
    go_region_held3 (fun W => W.cell? ⟨w.heap.size, 0, none⟩ = some (.int .u8 ck) ∧ W.cell? ⟨w.heap.size, 1, none⟩ = some (.int .i64 cr.x) ∧ W.cell? ⟨w.heap.size, 2, none⟩ = some (.int .i64 cr.y) ∧ W.cell? ⟨w.heap.size, 3, none⟩ = some (.int .i64 cr.w) ∧ W.cell? ⟨w.heap.size, 4, none⟩ = some (.int .i64 cr.h) ∧ W.cell? ⟨w.heap.size, 5, none⟩ = some (.int .i64 cid) ∧ W.cell? ⟨w.heap.size, 6, none⟩ = some (.slice ca t.kids.length ccap)) (first | with_reducible exact X0.out | with_reducible exact X0z.out | with_reducible exact X1.out | with_reducible exact X2.out | with_reducible exact c7_alloc X0.out _ | with_reducible exact c7_alloc X1.out _)
      (first
        | (go_at_call 25; (with_reducible refine (lsize_any cr ax (weW w ⟨ck, cr, cid, ca, t.kids.length, ccap⟩).drew).mono ?_); rintro e w1 ⟨rfl, hb1⟩; have D1 := Lib.hid (D0.out.up hb1); have X1 := Lib.hid (c7_of D1.out.box.cat); have NZ := Lib.hid True.intro; clear hb1)
        | (go_at_call 25; (with_reducible refine (lsize_any cr ax ((weW w ⟨ck, cr, cid, ca, t.kids.length, ccap⟩).alloc (gbox zG)).drew).mono ?_); rintro e w1 ⟨rfl, hb1⟩; have D1 := Lib.hid (Dz.out.up hb1); have X1 := Lib.hid (c7_of D1.out.box.cat); have Z1 := Lib.hid (ZZ.out.up hb1); have X2 := Lib.hid (c7_put9 (k := w.heap.size + 2) (x := ⟨⟨ck, cr, cid, ca, t.kids.length, ccap⟩, szA cr ax - 1, none, 0, 0⟩) X1.out (by omega)); obtain ⟨⟨z0, z1, z2, z3, z4, z5, z6, z7, z8⟩, f0, f1, f2, f3, f4, f5, f6, f7, f8⟩ := g9_parts Z1.out; clear hb1))
    · have P := Lib.hid (wst_new D1.out ⟨⟨ck, cr, cid, ca, t.kids.length, ccap⟩, szA cr ax - 1, none, 0, 0⟩)
      rename_i hh
      clear hh
      generalize w1.alloc (gbox ⟨⟨ck, cr, cid, ca, t.kids.length, ccap⟩, szA cr ax - 1, none, 0, 0⟩) = W at P ⊢
      generalize w1.heap.size = bg at P ⊢
      have hfar := P.out.far
      have hn1 : w.heap.size ≠ bg := by omega
      have hn2 : bg ≠ w.heap.size := by omega
      have P2 := Lib.hid (wst_row P.out none 0 0)
      obtain ⟨⟨s0, s1, s2, s3, s4, s5, s6, s7, s8⟩, e0, e1, e2, e3, e4, e5, e6, e7, e8⟩ := g9_parts P.out.giv
      obtain ⟨c0, c1, c2, c3, c4, c5, c6⟩ := c7_of P.out.box.cat
      go_wp2
      go_loopg [6, 22] (t.kids.length + 1) (fun g v i wr => ∃ (k : Nat) (gs : List G) (m : Int) (a : Option Addr) (cap : Nat), g + k = t.kids.length + 1 ∧ k ≤ t.kids.length ∧ i = .int .i64 k ∧ v = .int .i64 (gvS ax (t.kids.take k)) ∧ WSt w ⟨ck, cr, cid, ca, t.kids.length, ccap⟩ bg ⟨⟨ck, cr, cid, none, 0, 0⟩, m, a, gs.length, cap⟩ wr ∧ GroveG wr (bg + 1) (.slice a gs.length cap) ax gs (t.kids.take k) ∧ (alB ck ax = false → m = szA cr ax - max 1 (lsX ax (t.kids.take k))))
      case atStart => exact ⟨0, [], szA cr ax - 1, none, 0, by omega, by omega, rfl, by simp [gvS], P2.out, by simpa using GroveG.nil _ (bg + 1) ax, fun _ => by simp [lsX]; omega⟩
      case round =>
        clear s0 s1 s2 s3 s4 s5 s6 s7 s8 e0 e1 e2 e3 e4 e5 e6 e7 e8 c0 c1 c2 c3 c4 c5 c6
        obtain ⟨k, gs, m, a, cap, hg, hk, rfl, rfl, hw, hgr, hmn⟩ := hrel
        have HG := Lib.hid hg
        have HW := Lib.hid hw
        have HF := Lib.hid hgr
        have HMN := Lib.hid hmn
        clear hg hw hgr hmn
        by_cases hlt : k < t.kids.length
        · have hlti : (k : Int) < (t.kids.length : Int) := by omega
          obtain ⟨bb, o, rfl, hf⟩ := HR.out.place (by omega)
          obtain ⟨u, hu⟩ : ∃ u, t.kids[k]? = some u := ⟨_, List.getElem?_eq_getElem hlt⟩
          obtain ⟨z, hz, hiz⟩ := hf k u hu
          clear hf
          have hba : Below wr.heap.size wr (wr.alloc (cbox z)) := (Below.refl _ _).alloc (Nat.le_refl _) _
          have HBA := Lib.hid hba
          have HK := Lib.hid (HIH.out u z (wr.alloc (cbox z)) (by have := HS.out; have := sz_kid hu; omega) (by have := HM.out; have := sz_kid hu; omega) (HKT.out k u hu).2.1 ((hiz.up HW.out.below).up hba))
          have HU := Lib.hid hu
          have HKU := Lib.hid (HKT.out k u hu)
          obtain ⟨c0, c1, c2, c3, c4, c5, c6⟩ := hz.up HW.out.below
          obtain ⟨s0, s1, s2, s3, s4, s5, s6⟩ := c7_of HW.out.box.cat
          clear hiz hz hu hba
          go_wp2_with fail
          refine HK.out.mono ?_
          rintro e w2 ⟨d, rfl, hst, hb2⟩
          have HST := Lib.hid (hst.wide (lo' := wr.heap.size) (by simp) (Nat.le_refl _))
          have HDG := Lib.hid (hst.is.split.2.2.2.2.2.1)
          have HB2 := Lib.hid (HBA.out.trans (hb2.mono HBA.out.size))
          have HW2 := Lib.hid ((HW.out.up HBA.out).up hb2)
          clear hst hb2 c0 c1 c2 c3 c4 c5 c6 s0 s1 s2 s3 s4 s5 s6
          have HAL : Hid (Below w2.heap.size w2 ((w2.alloc (gbox d)).alloc (gbox d))) := Lib.hid (((Below.refl _ _).alloc (Nat.le_refl _) _).alloc (by simp) _)
          have HW3 : Hid (WSt w ⟨ck, cr, cid, some ⟨bb, o, none⟩, t.kids.length, ccap⟩ bg ⟨⟨ck, cr, cid, none, 0, 0⟩, m, a, gs.length, cap⟩ (w2.alloc (gbox d))) := Lib.hid (HW2.out.up ((Below.refl _ _).alloc (Nat.le_refl _) _))
          have HK4 : Hid (Box9 ((w2.alloc (gbox d)).alloc (gbox d)) w2.heap.size d) := Lib.hid ((Box9.new w2 d).up ((Below.refl _ _).alloc (Nat.le_refl _) _))
          have HBR : Hid (Below (bg + 1) wr ((w2.alloc (gbox d)).alloc (gbox d))) := Lib.hid ((HB2.out.trans (HAL.out.mono HB2.out.size)).mono (lt_of_block HW.out.giv))
          have HOW : Hid (OwnG ((w2.alloc (gbox d)).alloc (gbox d)) (bg + 1) (.slice a gs.length cap) gs) := Lib.hid (HF.out.row.up (HB2.out.trans (HAL.out.mono HB2.out.size)))
          have HG9 : Hid (G9 (w2.heap.size + 1) 0 d ((w2.alloc (gbox d)).alloc (gbox d))) := Lib.hid (by
            have h := (Box9.new (w2.alloc (gbox d)) d).cat
            have e : (w2.alloc (gbox d)).heap.size = w2.heap.size + 1 := by simp
            rw [e] at h
            exact h)
          have HLG : Hid (gs.length + 1 ≤ 1000000) := Lib.hid (by have := HF.out.len; rw [List.length_take] at this; omega)
          have HOB : Hid (∀ g, (Value.slice a gs.length cap).ownBlock = some g → g < wr.heap.size) := Lib.hid fun g hg => (ownG_block HF.out.row hg).2
          obtain ⟨⟨s0, s1, s2, s3, s4, s5, s6, s7, s8⟩, e0, e1, e2, e3, e4, e5, e6, e7, e8⟩ := g9_parts HW3.out.giv
          go_wp2_with (at_builtin; refine wpList_append_giver rfl _ _ rfl (bg + 1) _ gs _ d rfl HOW.out rfl HG9.out HLG.out wr HBR.out (lt_of_block HW.out.giv) ?_; intro g5 cap5 w5 hown5 hb5 hgr5 hpl5; have hw5 := Lib.hid (HW.out.upB hb5); have HK5 : Hid (Box9 w5 w2.heap.size d) := Lib.hid ((hgr5.block _ (by simp; omega) (fun e => by have := HOB.out _ e.symm; have := HB2.out.size; omega)).trans HK4.out); have HF5 := Lib.hid (HF.out.one HB2.out HAL.out (lt_of_block HW.out.giv) HST.out hown5 hgr5 hpl5); clear hown5 hb5 hgr5 hpl5 s0 s1 s2 s3 s4 s5 s6 s7 s8 e0 e1 e2 e3 e4 e5 e6 e7 e8; obtain ⟨⟨s0, s1, s2, s3, s4, s5, s6, s7, s8⟩, e0, e1, e2, e3, e4, e5, e6, e7, e8⟩ := g9_parts hw5.out.giv; obtain ⟨⟨q0, q1, q2, q3, q4, q5, q6, q7, q8⟩, -⟩ := g9_parts HK5.out; have hn3 : w2.heap.size ≠ bg := Nat.ne_of_gt (lt_of_block HW2.out.giv); have hn4 : bg ≠ w2.heap.size := Nat.ne_of_lt (lt_of_block HW2.out.giv))
          go_wp2
          go_roundg (gk - 1)
          case measure => have := HG.out; omega
          case rel =>
            have hgi := gvS_in HAX.out (l := t.kids.take k) (fun y hy => by
              obtain ⟨j, hj⟩ := List.getElem?_of_mem (List.mem_of_mem_take hy)
              exact ⟨(HKT.out j y hj).1, (HKT.out j y hj).2.1⟩)
            have hlk : ((t.kids.take k).length : Int) ≤ 990 := by rw [List.length_take]; omega
            have hgu := HKU.out
            refine ⟨k + 1, gs ++ [d], min m d.g, some ⟨g5, 0, none⟩, cap5, by have := HG.out; omega, by omega, by go_num, ?_, ?_, ?_, ?_⟩
            · rw [gvS_step HU.out, ← wrapE, HDG.out, wrap_id (by omega)]
            · simpa using wst_give (wst_kids hw5.out (some ⟨g5, 0, none⟩) (gs.length + 1) cap5) (min m d.g)
            · rw [take_snoc HU.out]
              have h6 := HF5.out.kept (w2 := (w5.setCell ⟨bg, 8, none⟩ (.slice (some ⟨g5, 0, none⟩) (gs.length + 1) cap5)).setCell ⟨bg, 7, none⟩ (.int .i64 (min m d.g))) (by simp [World.setCell]) fun j hj _ => by
                rw [Below.heap_setCell _ ⟨bg, 7, none⟩ _ j (by show j ≠ bg; omega), Below.heap_setCell _ ⟨bg, 8, none⟩ _ j (by show j ≠ bg; omega)]
              simpa using h6
            · intro ha
              rw [HMN.out ha, lsX_step HU.out, HDG.out, hgu.2.2.2.2 ha]
              omega
        · obtain rfl : k = t.kids.length := by omega
          have hkl : ((t.kids.length : Int) < (t.kids.length : Int)) = False := by simp
          have HFA : Hid (GroveG wr (bg + 1) (.slice a gs.length cap) ax gs t.kids) := Lib.hid (by have h := HF.out; rw [List.take_length] at h; exact h)
          have HMA : Hid (alB ck ax = false → m = szA cr ax - max 1 (lsX ax t.kids)) := Lib.hid (by have h := HMN.out; rw [List.take_length] at h; exact h)
          rw [List.take_length]
          obtain ⟨c0, c1, c2, c3, c4, c5, c6⟩ := c7_of HW.out.box.cat
          go_wp2_with fail
          refine (along8_any ⟨ck, cr, cid, ca, t.kids.length, ccap⟩ ax wr).mono ?_
          rintro e w2 ⟨rfl, hb2⟩
          have HW2 := Lib.hid (HW.out.up hb2)
          have HF2 := Lib.hid (HFA.out.kept hb2.size fun j _ hj => hb2.block j hj)
          clear hb2 c0 c1 c2 c3 c4 c5 c6
          obtain ⟨⟨s0, s1, s2, s3, s4, s5, s6, s7, s8⟩, e0, e1, e2, e3, e4, e5, e6, e7, e8⟩ := g9_parts HW2.out.giv
          obtain ⟨⟨z0, z1, z2, z3, z4, z5, z6, z7, z8⟩, f0, f1, f2, f3, f4, f5, f6, f7, f8⟩ := g9_parts HW2.out.zero
          have hn5 : w.heap.size + 1 ≠ bg := by omega
          have hn6 : bg ≠ w.heap.size + 1 := by omega
          cases hal : alB ck ax with
          | true =>
            have HGV := Lib.hid (show gvS ax t.kids = gvT ax (.node ck cr cid t.kids) by rw [← HSUM.out hal]; exact congrArg (gvT ax) HETA.out)
            have HW3 := Lib.hid (wst_give HW2.out (gvS ax t.kids))
            have HF3 := Lib.hid (HF2.out.kept (w2 := w2.setCell ⟨bg, 7, none⟩ (.int .i64 (gvS ax t.kids))) (by simp [World.setCell]) fun j hj _ => Below.heap_setCell _ ⟨bg, 7, none⟩ _ j (by show j ≠ bg; omega))
            generalize gvS ax t.kids = sm at HGV HW3 HF3 ⊢
            go_wp2
            (try simp only [Exit.inBlock, Exit.then])
            refine bodyPost_ret (results_g1 rfl _ _ (w.heap.size + 1) ⟨⟨ck, cr, cid, none, 0, 0⟩, sm, a, gs.length, cap⟩ rfl (HW3.out.zero.put ⟨⟨ck, cr, cid, none, 0, 0⟩, sm, a, gs.length, cap⟩)) rfl ?_
            exact we_end HETA.out HW3.out HF3.out HFINE.out.1 HFINE.out.2.1 HFINE.out.2.2.1 HGV.out
          | false =>
            have HGV := Lib.hid (show m = gvT ax (.node ck cr cid t.kids) by rw [HMA.out hal, ← HMIN.out hal]; exact congrArg (gvT ax) HETA.out)
            go_wp2
            (try simp only [Exit.inBlock, Exit.then])
            refine bodyPost_ret (results_g1 rfl _ _ (w.heap.size + 1) ⟨⟨ck, cr, cid, none, 0, 0⟩, m, a, gs.length, cap⟩ rfl (HW2.out.zero.put ⟨⟨ck, cr, cid, none, 0, 0⟩, m, a, gs.length, cap⟩)) rfl ?_
            exact we_end HETA.out HW2.out HF2.out HFINE.out.1 HFINE.out.2.1 HFINE.out.2.2.1 HGV.out
    · have P : Hid (WSt w ⟨ck, cr, cid, ca, t.kids.length, ccap⟩ (w.heap.size + 1 + 1) ⟨⟨ck, cr, cid, ca, t.kids.length, ccap⟩, szA cr ax - 1, none, 0, 0⟩ (put9 w1 (w.heap.size + 1 + 1) ⟨⟨ck, cr, cid, ca, t.kids.length, ccap⟩, szA cr ax - 1, none, 0, 0⟩)) := Lib.hid (wst_put D1.out Z1.out (by omega) ⟨⟨ck, cr, cid, ca, t.kids.length, ccap⟩, szA cr ax - 1, none, 0, 0⟩)
      rename_i hh
      clear hh
      change Exit.then _ _ _ _ (put9 w1 (w.heap.size + 1 + 1) ⟨⟨ck, cr, cid, ca, t.kids.length, ccap⟩, szA cr ax - 1, none, 0, 0⟩)
      generalize put9 w1 (w.heap.size + 1 + 1) ⟨⟨ck, cr, cid, ca, t.kids.length, ccap⟩, szA cr ax - 1, none, 0, 0⟩ = W at P ⊢
      generalize w.heap.size + 1 + 1 = bg at P ⊢
      have hfar := P.out.far
      have hn1 : w.heap.size ≠ bg := by omega
      have hn2 : bg ≠ w.heap.size := by omega
      have P2 := Lib.hid (wst_row P.out none 0 0)
      obtain ⟨⟨s0, s1, s2, s3, s4, s5, s6, s7, s8⟩, e0, e1, e2, e3, e4, e5, e6, e7, e8⟩ := g9_parts P.out.giv
      obtain ⟨c0, c1, c2, c3, c4, c5, c6⟩ := c7_of P.out.box.cat
      go_wp2
      go_loopg [6, 22] (t.kids.length + 1) (fun g v i wr => ∃ (k : Nat) (gs : List G) (m : Int) (a : Option Addr) (cap : Nat), g + k = t.kids.length + 1 ∧ k ≤ t.kids.length ∧ i = .int .i64 k ∧ v = .int .i64 (gvS ax (t.kids.take k)) ∧ WSt w ⟨ck, cr, cid, ca, t.kids.length, ccap⟩ bg ⟨⟨ck, cr, cid, none, 0, 0⟩, m, a, gs.length, cap⟩ wr ∧ GroveG wr (bg + 1) (.slice a gs.length cap) ax gs (t.kids.take k) ∧ (alB ck ax = false → m = szA cr ax - max 1 (lsX ax (t.kids.take k))))
      case atStart => exact ⟨0, [], szA cr ax - 1, none, 0, by omega, by omega, rfl, by simp [gvS], P2.out, by simpa using GroveG.nil _ (bg + 1) ax, fun _ => by simp [lsX]; omega⟩
      case round =>
        clear s0 s1 s2 s3 s4 s5 s6 s7 s8 e0 e1 e2 e3 e4 e5 e6 e7 e8 c0 c1 c2 c3 c4 c5 c6
        obtain ⟨k, gs, m, a, cap, hg, hk, rfl, rfl, hw, hgr, hmn⟩ := hrel
        have HG := Lib.hid hg
        have HW := Lib.hid hw
        have HF := Lib.hid hgr
        have HMN := Lib.hid hmn
        clear hg hw hgr hmn
        by_cases hlt : k < t.kids.length
        · have hlti : (k : Int) < (t.kids.length : Int) := by omega
          obtain ⟨bb, o, rfl, hf⟩ := HR.out.place (by omega)
          obtain ⟨u, hu⟩ : ∃ u, t.kids[k]? = some u := ⟨_, List.getElem?_eq_getElem hlt⟩
          obtain ⟨z, hz, hiz⟩ := hf k u hu
          clear hf
          have hba : Below wr.heap.size wr (wr.alloc (cbox z)) := (Below.refl _ _).alloc (Nat.le_refl _) _
          have HBA := Lib.hid hba
          have HK := Lib.hid (HIH.out u z (wr.alloc (cbox z)) (by have := HS.out; have := sz_kid hu; omega) (by have := HM.out; have := sz_kid hu; omega) (HKT.out k u hu).2.1 ((hiz.up HW.out.below).up hba))
          have HU := Lib.hid hu
          have HKU := Lib.hid (HKT.out k u hu)
          obtain ⟨c0, c1, c2, c3, c4, c5, c6⟩ := hz.up HW.out.below
          obtain ⟨s0, s1, s2, s3, s4, s5, s6⟩ := c7_of HW.out.box.cat
          clear hiz hz hu hba
          go_wp2_with fail
          refine HK.out.mono ?_
          rintro e w2 ⟨d, rfl, hst, hb2⟩
          have HST := Lib.hid (hst.wide (lo' := wr.heap.size) (by simp) (Nat.le_refl _))
          have HDG := Lib.hid (hst.is.split.2.2.2.2.2.1)
          have HB2 := Lib.hid (HBA.out.trans (hb2.mono HBA.out.size))
          have HW2 := Lib.hid ((HW.out.up HBA.out).up hb2)
          clear hst hb2 c0 c1 c2 c3 c4 c5 c6 s0 s1 s2 s3 s4 s5 s6
          have HAL : Hid (Below w2.heap.size w2 ((w2.alloc (gbox d)).alloc (gbox d))) := Lib.hid (((Below.refl _ _).alloc (Nat.le_refl _) _).alloc (by simp) _)
          have HW3 : Hid (WSt w ⟨ck, cr, cid, some ⟨bb, o, none⟩, t.kids.length, ccap⟩ bg ⟨⟨ck, cr, cid, none, 0, 0⟩, m, a, gs.length, cap⟩ (w2.alloc (gbox d))) := Lib.hid (HW2.out.up ((Below.refl _ _).alloc (Nat.le_refl _) _))
          have HK4 : Hid (Box9 ((w2.alloc (gbox d)).alloc (gbox d)) w2.heap.size d) := Lib.hid ((Box9.new w2 d).up ((Below.refl _ _).alloc (Nat.le_refl _) _))
          have HBR : Hid (Below (bg + 1) wr ((w2.alloc (gbox d)).alloc (gbox d))) := Lib.hid ((HB2.out.trans (HAL.out.mono HB2.out.size)).mono (lt_of_block HW.out.giv))
          have HOW : Hid (OwnG ((w2.alloc (gbox d)).alloc (gbox d)) (bg + 1) (.slice a gs.length cap) gs) := Lib.hid (HF.out.row.up (HB2.out.trans (HAL.out.mono HB2.out.size)))
          have HG9 : Hid (G9 (w2.heap.size + 1) 0 d ((w2.alloc (gbox d)).alloc (gbox d))) := Lib.hid (by
            have h := (Box9.new (w2.alloc (gbox d)) d).cat
            have e : (w2.alloc (gbox d)).heap.size = w2.heap.size + 1 := by simp
            rw [e] at h
            exact h)
          have HLG : Hid (gs.length + 1 ≤ 1000000) := Lib.hid (by have := HF.out.len; rw [List.length_take] at this; omega)
          have HOB : Hid (∀ g, (Value.slice a gs.length cap).ownBlock = some g → g < wr.heap.size) := Lib.hid fun g hg => (ownG_block HF.out.row hg).2
          obtain ⟨⟨s0, s1, s2, s3, s4, s5, s6, s7, s8⟩, e0, e1, e2, e3, e4, e5, e6, e7, e8⟩ := g9_parts HW3.out.giv
          go_wp2_with (at_builtin; refine wpList_append_giver rfl _ _ rfl (bg + 1) _ gs _ d rfl HOW.out rfl HG9.out HLG.out wr HBR.out (lt_of_block HW.out.giv) ?_; intro g5 cap5 w5 hown5 hb5 hgr5 hpl5; have hw5 := Lib.hid (HW.out.upB hb5); have HK5 : Hid (Box9 w5 w2.heap.size d) := Lib.hid ((hgr5.block _ (by simp; omega) (fun e => by have := HOB.out _ e.symm; have := HB2.out.size; omega)).trans HK4.out); have HF5 := Lib.hid (HF.out.one HB2.out HAL.out (lt_of_block HW.out.giv) HST.out hown5 hgr5 hpl5); clear hown5 hb5 hgr5 hpl5 s0 s1 s2 s3 s4 s5 s6 s7 s8 e0 e1 e2 e3 e4 e5 e6 e7 e8; obtain ⟨⟨s0, s1, s2, s3, s4, s5, s6, s7, s8⟩, e0, e1, e2, e3, e4, e5, e6, e7, e8⟩ := g9_parts hw5.out.giv; obtain ⟨⟨q0, q1, q2, q3, q4, q5, q6, q7, q8⟩, -⟩ := g9_parts HK5.out; have hn3 : w2.heap.size ≠ bg := Nat.ne_of_gt (lt_of_block HW2.out.giv); have hn4 : bg ≠ w2.heap.size := Nat.ne_of_lt (lt_of_block HW2.out.giv))
          go_wp2
          go_roundg (gk - 1)
          case measure => have := HG.out; omega
          case rel =>
            have hgi := gvS_in HAX.out (l := t.kids.take k) (fun y hy => by
              obtain ⟨j, hj⟩ := List.getElem?_of_mem (List.mem_of_mem_take hy)
              exact ⟨(HKT.out j y hj).1, (HKT.out j y hj).2.1⟩)
            have hlk : ((t.kids.take k).length : Int) ≤ 990 := by rw [List.length_take]; omega
            have hgu := HKU.out
            refine ⟨k + 1, gs ++ [d], min m d.g, some ⟨g5, 0, none⟩, cap5, by have := HG.out; omega, by omega, by go_num, ?_, ?_, ?_, ?_⟩
            · rw [gvS_step HU.out, ← wrapE, HDG.out, wrap_id (by omega)]
            · simpa using wst_give (wst_kids hw5.out (some ⟨g5, 0, none⟩) (gs.length + 1) cap5) (min m d.g)
            · rw [take_snoc HU.out]
              have h6 := HF5.out.kept (w2 := (w5.setCell ⟨bg, 8, none⟩ (.slice (some ⟨g5, 0, none⟩) (gs.length + 1) cap5)).setCell ⟨bg, 7, none⟩ (.int .i64 (min m d.g))) (by simp [World.setCell]) fun j hj _ => by
                rw [Below.heap_setCell _ ⟨bg, 7, none⟩ _ j (by show j ≠ bg; omega), Below.heap_setCell _ ⟨bg, 8, none⟩ _ j (by show j ≠ bg; omega)]
              simpa using h6
            · intro ha
              rw [HMN.out ha, lsX_step HU.out, HDG.out, hgu.2.2.2.2 ha]
              omega
        · obtain rfl : k = t.kids.length := by omega
          have hkl : ((t.kids.length : Int) < (t.kids.length : Int)) = False := by simp
          have HFA : Hid (GroveG wr (bg + 1) (.slice a gs.length cap) ax gs t.kids) := Lib.hid (by have h := HF.out; rw [List.take_length] at h; exact h)
          have HMA : Hid (alB ck ax = false → m = szA cr ax - max 1 (lsX ax t.kids)) := Lib.hid (by have h := HMN.out; rw [List.take_length] at h; exact h)
          rw [List.take_length]
          obtain ⟨c0, c1, c2, c3, c4, c5, c6⟩ := c7_of HW.out.box.cat
          go_wp2_with fail
          refine (along8_any ⟨ck, cr, cid, ca, t.kids.length, ccap⟩ ax wr).mono ?_
          rintro e w2 ⟨rfl, hb2⟩
          have HW2 := Lib.hid (HW.out.up hb2)
          have HF2 := Lib.hid (HFA.out.kept hb2.size fun j _ hj => hb2.block j hj)
          clear hb2 c0 c1 c2 c3 c4 c5 c6
          obtain ⟨⟨s0, s1, s2, s3, s4, s5, s6, s7, s8⟩, e0, e1, e2, e3, e4, e5, e6, e7, e8⟩ := g9_parts HW2.out.giv
          obtain ⟨⟨z0, z1, z2, z3, z4, z5, z6, z7, z8⟩, f0, f1, f2, f3, f4, f5, f6, f7, f8⟩ := g9_parts HW2.out.zero
          have hn5 : w.heap.size + 1 ≠ bg := by omega
          have hn6 : bg ≠ w.heap.size + 1 := by omega
          cases hal : alB ck ax with
          | true =>
            have HGV := Lib.hid (show gvS ax t.kids = gvT ax (.node ck cr cid t.kids) by rw [← HSUM.out hal]; exact congrArg (gvT ax) HETA.out)
            have HW3 := Lib.hid (wst_give HW2.out (gvS ax t.kids))
            have HF3 := Lib.hid (HF2.out.kept (w2 := w2.setCell ⟨bg, 7, none⟩ (.int .i64 (gvS ax t.kids))) (by simp [World.setCell]) fun j hj _ => Below.heap_setCell _ ⟨bg, 7, none⟩ _ j (by show j ≠ bg; omega))
            generalize gvS ax t.kids = sm at HGV HW3 HF3 ⊢
            go_wp2
            (try simp only [Exit.inBlock, Exit.then])
            refine bodyPost_ret (results_g1 rfl _ _ (w.heap.size + 1) ⟨⟨ck, cr, cid, none, 0, 0⟩, sm, a, gs.length, cap⟩ rfl (HW3.out.zero.put ⟨⟨ck, cr, cid, none, 0, 0⟩, sm, a, gs.length, cap⟩)) rfl ?_
            exact we_end HETA.out HW3.out HF3.out HFINE.out.1 HFINE.out.2.1 HFINE.out.2.2.1 HGV.out
          | false =>
            have HGV := Lib.hid (show m = gvT ax (.node ck cr cid t.kids) by rw [HMA.out hal, ← HMIN.out hal]; exact congrArg (gvT ax) HETA.out)
            go_wp2
            (try simp only [Exit.inBlock, Exit.then])
            refine bodyPost_ret (results_g1 rfl _ _ (w.heap.size + 1) ⟨⟨ck, cr, cid, none, 0, 0⟩, m, a, gs.length, cap⟩ rfl (HW2.out.zero.put ⟨⟨ck, cr, cid, none, 0, 0⟩, m, a, gs.length, cap⟩)) rfl ?_
            exact we_end HETA.out HW2.out HF2.out HFINE.out.1 HFINE.out.2.1 HFINE.out.2.2.1 HGV.out
end Go.Proofs.YtbbjnimadnbmnaaGreat
/- The cell around a leaf that is split: the program's around. -/
namespace Go.Proofs.YtbbjnimadnbmnaaGreat
open Go.RowKit

theorem PRow.take {w : World} {base cap n : Nat} {va : Option Addr} {p : List Int} (h : PRow w base (.slice va n cap) p) (k : Nat) (hk : k ≤ p.length) : PRow w base (.slice va k cap) (p.take k) := by
  have hc := h.2.2 _ _ _ rfl
  obtain ⟨a', cap', he, h0, h1⟩ := h.1
  cases he
  rw [ints_length] at hc
  refine ⟨⟨va, cap, by rw [ints_length, List.length_take, Nat.min_eq_left hk], fun e => ?_, fun x hx j v hv => ?_⟩, fun a n cap' e => ?_, fun a n cap' e => ?_⟩
  · obtain ⟨h2, h3⟩ := h0 e
    have h4 : p = [] := by cases p with | nil => rfl | cons a l => simp [ints] at h2
    subst h4
    exact ⟨by simp [ints], h3⟩
  · refine h1 x hx j v ?_
    have h5 : ints (p.take k) = (ints p).take k := by unfold ints; rw [List.map_take]
    rw [h5, List.getElem?_take] at hv
    split at hv
    · exact hv
    · cases hv
  · cases e; exact h.2.1 _ _ _ rfl
  · cases e; omega
theorem PRow.at {w : World} {base cap n : Nat} {va : Option Addr} {p : List Int} (h : PRow w base (.slice va n cap) p) (hp : 0 < p.length) : ∃ g, va = some ⟨g, 0, none⟩ ∧ n = p.length ∧ p.length ≤ cap ∧ ∀ (j : Nat) (m : Int), p[j]? = some m → w.cell? ⟨g, j, none⟩ = some (.int .i64 m) := by
  have hc := h.2.2 _ _ _ rfl
  obtain ⟨a', cap', he, h0, h1⟩ := h.1
  cases he
  rw [ints_length] at hc ⊢
  cases va with
  | none => have := (h0 rfl).1; cases p with | nil => simp at hp | cons a l => simp [ints] at this
  | some x =>
    obtain ⟨g, rfl, -⟩ := h.2.1 x _ _ rfl
    refine ⟨g, rfl, rfl, hc, fun j m hj => ?_⟩
    have := h1 _ rfl j (.int .i64 m) (by simp [ints, hj])
    rw [Go.WideShapes.add_plain, Nat.zero_add] at this
    exact this

/-- What around answers. -/
def ArSays (t : T) (p : List Int) (ax : Int) (u : T) (base : Nat) (w : World) (e : Ending) (w' : World) : Prop := ∃ (d : C) (S : List Nat) (g : T) (pl : List Int) (k : Nat) (qa : Option Addr) (qcap : Nat), e = .returned (.tuple #[cval d, .slice qa pl.length qcap, .int .i64 (k : Int)]) ∧ Around t p ax u g pl k ∧ OwnT w' w.heap.size d g S ∧ S.Nodup ∧ PRow w base (.slice qa pl.length qcap) pl ∧ Below w.heap.size w w'

/-- A cell of one's own in a box of one's own. -/
structure Grp (w : World) (c : C) (b : Nat) (d : C) (g : T) (S : List Nat) (W : World) : Prop where
  st : ASt w c W
  box : Box7 W b d
  far : w.heap.size + 1 < b
  own : OwnT W (w.heap.size + 2) d g S
theorem Grp.up {w W W' : World} {c d : C} {b : Nat} {g : T} {S : List Nat} (h : Grp w c b d g S W) (hb : Below W.heap.size W W') : Grp w c b d g S W' := ⟨h.st.up hb, h.box.up hb, h.far, h.own.up hb⟩
theorem grp_new {w W : World} {B : Nat} {c d : C} {g : T} {S : List Nat} (h : ASt w c W) (h0 : w.heap.size + 2 ≤ B) (ho : OwnT W B d g S) : Grp w c W.heap.size d g S (W.alloc (cbox d)) :=
  have hb : Below W.heap.size W (W.alloc (cbox d)) := (Below.refl _ _).alloc (Nat.le_refl _) _
  ⟨h.up hb, Box7.new W d, lt_of_block h.zero, (ho.lower h0).up hb⟩
theorem grp_put {w W : World} {B : Nat} {c d : C} {b : Nat} {g : T} {S : List Nat} (h : ASt w c W) (hz : Zero7 W b) (hb : w.heap.size + 1 < b) (h0 : b < B) (ho : OwnT W B d g S) : Grp w c b d g S (put7 W b d) := by
  have hs : ∀ k, k ≠ b → (put7 W b d).heap[k]? = W.heap[k]? := fun k hk => heap_put7 hk
  refine ⟨⟨below_put7 h.below (by omega) d, (hs _ (by omega)).trans h.box, (hs _ (by omega)).trans h.zero⟩, (Box7.of_zero hz).put d, hb, ?_⟩
  exact (ho.frame fun k hk => hs k (by have := (ho.ge k hk).1; omega)).lower (by omega)

theorem ar_end {t u g : T} {p pl : List Int} {ax : Int} {base k b : Nat} {w W : World} {c d : C} {S : List Nat} {qa : Option Addr} {qcap n : Nat} (hln : n = pl.length) (h : Grp w c b d g S W) (hq : PRow w base (.slice qa pl.length qcap) pl) (ha : Around t p ax u g pl k) (hn : S.Nodup) :
    ArSays t p ax u base w (.returned (.tuple #[cval d, .slice qa n qcap, .int .i64 (k : Int)])) (put7 W (w.heap.size + 1) d) := by
  subst hln
  have h1 := below_put7 h.st.below (show w.heap.size ≤ w.heap.size + 1 by omega) d
  refine ⟨d, S, g, pl, k, qa, qcap, rfl, ha, ?_, hn, hq, h1⟩
  exact (h.own.frame fun i hi => heap_put7 (by have := (h.own.ge i hi).1; omega)).lower (by omega)
theorem ar_endD {t u g : T} {p pl : List Int} {ax : Int} {base k b : Nat} {w W : World} {c d : C} {S : List Nat} {qa : Option Addr} {qcap n : Nat} (hln : n = pl.length) (h : Grp w c b d g S W) (hq : PRow w base (.slice qa pl.length qcap) pl) (ha : Around t p ax u g pl k) (hn : S.Nodup) :
    ArSays t p ax u base w (.returned (.tuple #[cval d, .slice qa n qcap, .int .i64 (k : Int)])) (put7 W (w.heap.size + 1) d).drew := by
  subst hln
  have h1 := (below_put7 h.st.below (show w.heap.size ≤ w.heap.size + 1 by omega) d).drew
  refine ⟨d, S, g, pl, k, qa, qcap, rfl, ha, ?_, hn, hq, h1⟩
  have h2 : OwnT (put7 W (w.heap.size + 1) d) (w.heap.size + 2) d g S := h.own.frame fun i hi => heap_put7 (by have := (h.own.ge i hi).1; omega)
  exact (h2.up (Below.refl _ _).drew).lower (by omega)
/-- A cell of one's own around a leaf of one's own. -/
abbrev grpC (kd : Int) (r : R) (n : Nat) : C := ⟨kd, r, 0, some ⟨n, 0, none⟩, 1, 1⟩
theorem grp_group {w W : World} {B : Nat} {c d : C} {u : T} {ax kd : Int} {S : List Nat} (h : ASt w c W) (h0 : w.heap.size + 2 ≤ B) (ho : OwnT W B d u S) (hB : Below B W W) (hn : S.Nodup) (hk : kd = if ax = 2 then 3 else 2) :
    ∃ S', S'.Nodup ∧ Grp w c (W.heap.size + 1 + 1) (grpC kd d.r (W.heap.size + 1)) (mkG ax u) S' (((W.alloc (cbox d)).alloc (cbox d)).alloc (cbox (grpC kd d.r (W.heap.size + 1)))) := by
  have al : ∀ (x : World) (o : Obj), Below x.heap.size x (x.alloc o) := fun x o => (Below.refl _ _).alloc (Nat.le_refl _) _
  have b1 := al W (cbox d)
  have b2 := b1.trans ((al (W.alloc (cbox d)) (cbox d)).mono b1.size)
  have b3 := b2.trans ((al ((W.alloc (cbox d)).alloc (cbox d)) (cbox (grpC kd d.r (W.heap.size + 1)))).mono b2.size)
  have s1 : (W.alloc (cbox d)).heap.size = W.heap.size + 1 := by simp
  have s2 : ((W.alloc (cbox d)).alloc (cbox d)).heap.size = W.heap.size + 1 + 1 := by simp
  have hz := lt_of_block h.zero
  have hrow : OwnC (((W.alloc (cbox d)).alloc (cbox d)).alloc (cbox (grpC kd d.r (W.heap.size + 1)))) (w.heap.size + 2) (.slice (some ⟨W.heap.size + 1, 0, none⟩) 1 1) [d] := by
    have := (OwnC.one (W.alloc (cbox d)) (w.heap.size + 2) (by omega) d).up (al _ (cbox (grpC kd d.r (W.heap.size + 1))))
    rw [s1] at this
    exact this
  have hown := (ho.up b3).lower h0
  have hfine := ho.is.fine
  refine ⟨blk (.slice (some ⟨W.heap.size + 1, 0, none⟩) 1 1) ++ [S].flatten, ?_, h.up b3, ?_, by omega, ?_⟩
  · rw [List.nodup_append]
    refine ⟨by simp [blk, Value.ownBlock], by simpa using hn, fun a ha b hb e => ?_⟩
    subst e
    have h1 : a = W.heap.size + 1 := by simpa [blk, Value.ownBlock] using ha
    have h2 := (ho.ge a (by simpa using hb)).2
    omega
  · have := Box7.new ((W.alloc (cbox d)).alloc (cbox d)) (grpC kd d.r (W.heap.size + 1))
    rw [s2] at this
    exact this
  · unfold mkG
    rw [← hk, show u.r = d.r from ho.is.split.2.1]
    refine .mk (grpC kd d.r (W.heap.size + 1)) [u] [d] [S] ⟨?_, hfine.2.1, ⟨by simp, by simp⟩, by simp⟩ hrow rfl rfl fun j x y S' hx hy hS => ?_
    · rw [hk]; split <;> simp
    · cases j with
      | zero => simp at hx hy hS; subst hx; subst hy; subst hS; exact hown
      | succ j => simp at hx

set_option maxHeartbeats 2000000 in
set_option maxRecDepth 100000 in
theorem around_a (t u g : T) (c : C) (q : List Int) (j : Nat) (va : Option Addr) (vcap base : Nat) (ax : Int) (w : World) (hi : Is w c t) (hp : PRow w base (.slice va (q.length + 1) vcap) (q ++ [(j : Int)])) (hpl : q.length + 1 ≤ 1000000) (hat : atT t q = some g) (ha : alB g.k ax = true) : Calls Tryz.prog 50 #[cval c, .slice va (q.length + 1) vcap, .int .u8 ax] w (ArSays t (q ++ [(j : Int)]) ax u base w) := by
  have L0 := Lib.hid (ASt.start w c)
  obtain ⟨pg, rfl, -, hcap, hcell⟩ := hp.at (by simp)
  have hpb := lt_of_cell (hcell q.length (j : Int) (by simp))
  have cj := hcell q.length (j : Int) (by simp)
  have hcap2 : q.length + 1 ≤ vcap := by simpa using hcap
  have HQ : Hid (PRow w base (.slice (some ⟨pg, 0, none⟩) q.length vcap) q) := Lib.hid (by
    have := hp.take q.length (by simp)
    simpa using this)
  have HCJ := Lib.hid cj
  have HAT := Lib.hid (fun (W : World) (h : ASt w c W) => atO_any t g c (.slice (some ⟨pg, 0, none⟩) q.length vcap) q W (h.is hi) (HQ.out.1.up h.below) (by omega) hat)
  have HG := Lib.hid hat
  have HA := Lib.hid ha
  clear hp hcap hcell cj hi hat ha
  have hpb' : pg < w.heap.size := hpb
  have hne1 : pg ≠ w.heap.size + 1 := by omega
  have hs0 : (0 : Int) ≤ (q.length : Int) := by omega
  have hs1 : (q.length : Int) ≤ (vcap : Int) := by omega
  have Dz : Hid (ASt w c ((cellW w c).alloc zeroBox).drew) := Lib.hid (L0.out.up ((Below.refl _ _).alloc (Nat.le_refl _) _).drew)
  have D0 : Hid (ASt w c (cellW w c).drew) := Lib.hid (L0.out.up (Below.refl _ _).drew)
  have ZZ : Hid (Zero7 ((cellW w c).alloc zeroBox).drew (w.heap.size + 1 + 1)) := Lib.hid (by
    have := zero_new (cellW w c)
    rw [cellW_size] at this
    exact this)
  have HZ0 : Hid (w.heap.size + 2 ≤ (cellW w c).drew.heap.size) := Lib.hid (by simp)
  have HZ1 : Hid (w.heap.size + 2 < ((cellW w c).alloc zeroBox).drew.heap.size) := Lib.hid (by simp)
  have X0 := Lib.hid (c7_of D0.out.box.cat)
  have Xz := Lib.hid (c7_of Dz.out.box.cat)
  have n1 : ¬ (vcap = q.length) := by omega
  go_enter Tryz.func50, Tryz.ntmps50
  go_wp2_with fail
  go_region_held3 (fun W => W.cell? ⟨w.heap.size, 0, none⟩ = some (.int .u8 c.k) ∧ W.cell? ⟨w.heap.size, 1, none⟩ = some (.int .i64 c.r.x) ∧ W.cell? ⟨w.heap.size, 2, none⟩ = some (.int .i64 c.r.y) ∧ W.cell? ⟨w.heap.size, 3, none⟩ = some (.int .i64 c.r.w) ∧ W.cell? ⟨w.heap.size, 4, none⟩ = some (.int .i64 c.r.h) ∧ W.cell? ⟨w.heap.size, 5, none⟩ = some (.int .i64 c.id) ∧ W.cell? ⟨w.heap.size, 6, none⟩ = some (.slice c.a c.n c.cap)) (first | with_reducible exact X0.out | with_reducible exact Xz.out | with_reducible exact X2.out | with_reducible exact X3.out | with_reducible exact c7_alloc X0.out _ | with_reducible exact c7_alloc X2.out _)
    (first
      | (go_at_call 32; (with_reducible refine (HAT.out (cellW w c).drew D0.out).mono ?_); rintro e w2 ⟨d, S, rfl, hown, hnd, hb⟩; have L2 := Lib.hid (D0.out.up hb); have X2 := Lib.hid (c7_of L2.out.box.cat); have O2 := Lib.hid hown; have ND := Lib.hid hnd; have NO := Lib.hid HZ0.out; clear hown hb hnd)
      | (go_at_call 32; (with_reducible refine (HAT.out ((cellW w c).alloc zeroBox).drew Dz.out).mono ?_); rintro e w2 ⟨d, S, rfl, hown, hnd, hb⟩; have L2 := Lib.hid (Dz.out.up hb); have X2 := Lib.hid (c7_of L2.out.box.cat); have O2 := Lib.hid hown; have ND := Lib.hid hnd; have YES := Lib.hid HZ1.out; have Z2 := Lib.hid (zero_up ZZ.out hb); have X3 := Lib.hid (c7_put7 (k := w.heap.size + 1 + 1) (x := d) X2.out (by omega)); obtain ⟨⟨z0, z1, z2, z3, z4, z5, z6⟩, f0, f1, f2, f3, f4, f5, f6⟩ := zero_parts Z2.out; clear hown hb hnd))
  all_goals (rename_i hh; clear hh)
  all_goals first
    | have P := Lib.hid (grp_new L2.out NO.out O2.out)
    | have P := Lib.hid (grp_put L2.out Z2.out (by omega) YES.out O2.out)
  all_goals
    obtain ⟨q0, q1, q2, q3, q4, q5, q6⟩ := c7_of P.out.box.cat
    have hdk : alB d.k ax = true := by rw [← P.out.own.is.split.1]; exact HA.out
    have HAL := Lib.hid (along8_any d ax)
    rw [hdk] at HAL
    clear hdk
    go_wp2_with fail
    refine (HAL.out _).mono ?_
    rintro e w3 ⟨rfl, hb3⟩
    have P3 := Lib.hid (P.out.up hb3)
    clear hb3 q0 q1 q2 q3 q4 q5 q6 P
    try clear z0 z1 z2 z3 z4 z5 z6 f0 f1 f2 f3 f4 f5 f6
    obtain ⟨q0, q1, q2, q3, q4, q5, q6⟩ := c7_of P3.out.box.cat
    obtain ⟨⟨z0, z1, z2, z3, z4, z5, z6⟩, f0, f1, f2, f3, f4, f5, f6⟩ := zero_parts P3.out.st.zero
    have cj : w3.cell? ⟨pg, q.length, none⟩ = some (.int .i64 (j : Int)) := (P3.out.st.below.cell hpb').trans HCJ.out
    have hfar := P3.out.far
    go_wp2_with fail
    go_region
    go_wp2
    (try simp only [Exit.inBlock, Exit.then])
  all_goals
    refine bodyPost_ret (results_c3 rfl _ _ (w.heap.size + 1) d rfl (((Box7.of_zero P3.out.st.zero).put d).up (Below.refl _ _).drew)) rfl ?_
    exact ar_endD rfl P3.out HQ.out (.inl ⟨q, j, rfl, HG.out, HA.out, rfl, rfl⟩) ND.out
set_option maxHeartbeats 2000000 in
set_option maxRecDepth 100000 in
theorem around_b (t u g : T) (c : C) (q : List Int) (j : Nat) (va : Option Addr) (vcap base : Nat) (ax : Int) (w : World) (hi : Is w c t) (hp : PRow w base (.slice va (q.length + 1) vcap) (q ++ [(j : Int)])) (hpl : q.length + 1 ≤ 1000000) (hat : atT t q = some g) (ha : alB g.k ax = false) (hu : atT t (q ++ [(j : Int)]) = some u) (hax : ax = 1 ∨ ax = 2) : Calls Tryz.prog 50 #[cval c, .slice va (q.length + 1) vcap, .int .u8 ax] w (ArSays t (q ++ [(j : Int)]) ax u base w) := by
  have L0 := Lib.hid (ASt.start w c)
  obtain ⟨pg, rfl, -, hcap, hcell⟩ := hp.at (by simp)
  have hpb := lt_of_cell (hcell q.length (j : Int) (by simp))
  have cj := hcell q.length (j : Int) (by simp)
  have hcap2 : q.length + 1 ≤ vcap := by simpa using hcap
  have HPR0 := Lib.hid hp
  have HAT2 := Lib.hid (fun (W : World) (h : ASt w c W) => atO_any t u c (.slice (some ⟨pg, 0, none⟩) (q.length + 1) vcap) (q ++ [(j : Int)]) W (h.is hi) (hp.1.up h.below) (by simp; omega) hu)
  have HQ : Hid (PRow w base (.slice (some ⟨pg, 0, none⟩) q.length vcap) q) := Lib.hid (by
    have := hp.take q.length (by simp)
    simpa using this)
  have HCJ := Lib.hid cj
  have HAT := Lib.hid (fun (W : World) (h : ASt w c W) => atO_any t g c (.slice (some ⟨pg, 0, none⟩) q.length vcap) q W (h.is hi) (HQ.out.1.up h.below) (by omega) hat)
  have HG := Lib.hid hat
  have HA := Lib.hid ha
  clear hp hcap hcell cj hi hat ha
  have hpb' : pg < w.heap.size := hpb
  have hne1 : pg ≠ w.heap.size + 1 := by omega
  have hs0 : (0 : Int) ≤ (q.length : Int) := by omega
  have hs1 : (q.length : Int) ≤ (vcap : Int) := by omega
  have Dz : Hid (ASt w c ((cellW w c).alloc zeroBox).drew) := Lib.hid (L0.out.up ((Below.refl _ _).alloc (Nat.le_refl _) _).drew)
  have D0 : Hid (ASt w c (cellW w c).drew) := Lib.hid (L0.out.up (Below.refl _ _).drew)
  have ZZ : Hid (Zero7 ((cellW w c).alloc zeroBox).drew (w.heap.size + 1 + 1)) := Lib.hid (by
    have := zero_new (cellW w c)
    rw [cellW_size] at this
    exact this)
  have HZ0 : Hid (w.heap.size + 2 ≤ (cellW w c).drew.heap.size) := Lib.hid (by simp)
  have HZ1 : Hid (w.heap.size + 2 < ((cellW w c).alloc zeroBox).drew.heap.size) := Lib.hid (by simp)
  have X0 := Lib.hid (c7_of D0.out.box.cat)
  have Xz := Lib.hid (c7_of Dz.out.box.cat)
  have n1 : ¬ (vcap = q.length) := by omega
  go_enter Tryz.func50, Tryz.ntmps50
  go_wp2_with fail
  go_region_held3 (fun W => W.cell? ⟨w.heap.size, 0, none⟩ = some (.int .u8 c.k) ∧ W.cell? ⟨w.heap.size, 1, none⟩ = some (.int .i64 c.r.x) ∧ W.cell? ⟨w.heap.size, 2, none⟩ = some (.int .i64 c.r.y) ∧ W.cell? ⟨w.heap.size, 3, none⟩ = some (.int .i64 c.r.w) ∧ W.cell? ⟨w.heap.size, 4, none⟩ = some (.int .i64 c.r.h) ∧ W.cell? ⟨w.heap.size, 5, none⟩ = some (.int .i64 c.id) ∧ W.cell? ⟨w.heap.size, 6, none⟩ = some (.slice c.a c.n c.cap)) (first | with_reducible exact X0.out | with_reducible exact Xz.out | with_reducible exact X2.out | with_reducible exact X3.out | with_reducible exact c7_alloc X0.out _ | with_reducible exact c7_alloc X2.out _)
    (first
      | (go_at_call 32; (with_reducible refine (HAT.out (cellW w c).drew D0.out).mono ?_); rintro e w2 ⟨d, S, rfl, hown, hnd, hb⟩; have L2 := Lib.hid (D0.out.up hb); have X2 := Lib.hid (c7_of L2.out.box.cat); have O2 := Lib.hid hown; have ND := Lib.hid hnd; have NO := Lib.hid HZ0.out; clear hown hb hnd)
      | (go_at_call 32; (with_reducible refine (HAT.out ((cellW w c).alloc zeroBox).drew Dz.out).mono ?_); rintro e w2 ⟨d, S, rfl, hown, hnd, hb⟩; have L2 := Lib.hid (Dz.out.up hb); have X2 := Lib.hid (c7_of L2.out.box.cat); have O2 := Lib.hid hown; have ND := Lib.hid hnd; have YES := Lib.hid HZ1.out; have Z2 := Lib.hid (zero_up ZZ.out hb); have X3 := Lib.hid (c7_put7 (k := w.heap.size + 1 + 1) (x := d) X2.out (by omega)); obtain ⟨⟨z0, z1, z2, z3, z4, z5, z6⟩, f0, f1, f2, f3, f4, f5, f6⟩ := zero_parts Z2.out; clear hown hb hnd))
  all_goals (rename_i hh; clear hh)
  all_goals first
    | have P := Lib.hid (grp_new L2.out NO.out O2.out)
    | have P := Lib.hid (grp_put L2.out Z2.out (by omega) YES.out O2.out)
  all_goals
    obtain ⟨q0, q1, q2, q3, q4, q5, q6⟩ := c7_of P.out.box.cat
    have hdk : alB d.k ax = false := by rw [← P.out.own.is.split.1]; exact HA.out
    have HAL := Lib.hid (along8_any d ax)
    rw [hdk] at HAL
    clear hdk
    go_wp2_with fail
    refine (HAL.out _).mono ?_
    rintro e w3 ⟨rfl, hb3⟩
    have P3 := Lib.hid (P.out.up hb3)
    clear hb3 q0 q1 q2 q3 q4 q5 q6 P
    try clear z0 z1 z2 z3 z4 z5 z6 f0 f1 f2 f3 f4 f5 f6
    obtain ⟨q0, q1, q2, q3, q4, q5, q6⟩ := c7_of P3.out.box.cat
    obtain ⟨⟨z0, z1, z2, z3, z4, z5, z6⟩, f0, f1, f2, f3, f4, f5, f6⟩ := zero_parts P3.out.st.zero
    have HPR : Hid (PRow w base (.slice (some ⟨pg, 0, none⟩) (q ++ [(j : Int)]).length vcap) (q ++ [(j : Int)])) := Lib.hid (by
      have := HPR0.out
      simpa using this)
    have HWHY : Hid (q ++ [(j : Int)] = [] ∨ ∃ (q' : List Int) (j' : Int) (g' : T), q ++ [(j : Int)] = q' ++ [j'] ∧ atT t q' = some g' ∧ alB g'.k ax = false) := Lib.hid (.inr ⟨q, j, g, rfl, HG.out, HA.out⟩)
    have HAXK : Hid ((if ax = 2 then (3 : Int) else 2) = if (ax == 2) = true then 3 else 2) := Lib.hid (by simp)
    clear q0 q1 q2 q3 q4 q5 q6 z0 z1 z2 z3 z4 z5 z6 f0 f1 f2 f3 f4 f5 f6
    obtain ⟨q0, q1, q2, q3, q4, q5, q6⟩ := c7_of P3.out.st.box.cat
    go_wp2_with fail
    refine (HAT2.out w3 P3.out.st).mono ?_
    rintro e w4 ⟨d4, S4, rfl, hown, hnd, hb4⟩
    have L4 := Lib.hid (P3.out.st.up hb4)
    have O4 := Lib.hid hown
    have ND4 := Lib.hid hnd
    have HB4 : Hid (w.heap.size + 2 ≤ w3.heap.size) := Lib.hid (by have := lt_of_block P3.out.st.zero; omega)
    clear hown hnd hb4 q0 q1 q2 q3 q4 q5 q6
    rcases Bool.eq_false_or_eq_true (ax == 2) with hq2 | hq2
    · obtain ⟨S', hnd', hgrp⟩ := grp_group (c := c) (ax := ax) (kd := 3) L4.out HB4.out O4.out (Below.refl _ _) ND4.out (by rw [HAXK.out, hq2]; rfl)
      have P := Lib.hid hgrp
      have NDP := Lib.hid hnd'
      clear hgrp hnd'
      go_upto_region 10 with (fail)
      change Code.wp _ _ _ _ (((w4.alloc (cbox d4)).alloc (cbox d4)).alloc (cbox (grpC 3 d4.r (w4.heap.size + 1))))
      generalize (((w4.alloc (cbox d4)).alloc (cbox d4)).alloc (cbox (grpC 3 d4.r (w4.heap.size + 1)))) = W5 at P ⊢
      obtain ⟨⟨z0, z1, z2, z3, z4, z5, z6⟩, f0, f1, f2, f3, f4, f5, f6⟩ := zero_parts P.out.st.zero
      obtain ⟨q0, q1, q2, q3, q4, q5, q6⟩ := c7_of P.out.box.cat
      have hfar := P.out.far
      go_wp2
      (try simp only [Exit.inBlock, Exit.then])
      refine bodyPost_ret (results_c3 rfl _ (put7 W5 (w.heap.size + 1) (grpC 3 d4.r (w4.heap.size + 1))) (w.heap.size + 1) (grpC 3 d4.r (w4.heap.size + 1)) rfl ((Box7.of_zero P.out.st.zero).put (grpC 3 d4.r (w4.heap.size + 1)))) rfl ?_
      exact ar_end (by simp) P.out HPR.out (.inr ⟨rfl, rfl, rfl, HWHY.out⟩) NDP.out
    · obtain ⟨S', hnd', hgrp⟩ := grp_group (c := c) (ax := ax) (kd := 2) L4.out HB4.out O4.out (Below.refl _ _) ND4.out (by rw [HAXK.out, hq2]; rfl)
      have P := Lib.hid hgrp
      have NDP := Lib.hid hnd'
      clear hgrp hnd'
      go_upto_region 10 with (fail)
      change Code.wp _ _ _ _ (((w4.alloc (cbox d4)).alloc (cbox d4)).alloc (cbox (grpC 2 d4.r (w4.heap.size + 1))))
      generalize (((w4.alloc (cbox d4)).alloc (cbox d4)).alloc (cbox (grpC 2 d4.r (w4.heap.size + 1)))) = W5 at P ⊢
      obtain ⟨⟨z0, z1, z2, z3, z4, z5, z6⟩, f0, f1, f2, f3, f4, f5, f6⟩ := zero_parts P.out.st.zero
      obtain ⟨q0, q1, q2, q3, q4, q5, q6⟩ := c7_of P.out.box.cat
      have hfar := P.out.far
      go_wp2
      (try simp only [Exit.inBlock, Exit.then])
      refine bodyPost_ret (results_c3 rfl _ (put7 W5 (w.heap.size + 1) (grpC 2 d4.r (w4.heap.size + 1))) (w.heap.size + 1) (grpC 2 d4.r (w4.heap.size + 1)) rfl ((Box7.of_zero P.out.st.zero).put (grpC 2 d4.r (w4.heap.size + 1)))) rfl ?_
      exact ar_end (by simp) P.out HPR.out (.inr ⟨rfl, rfl, rfl, HWHY.out⟩) NDP.out

set_option maxHeartbeats 2000000 in
set_option maxRecDepth 100000 in
theorem around_c (t u : T) (c : C) (va : Option Addr) (vcap base : Nat) (ax : Int) (w : World) (hi : Is w c t) (hp : PRow w base (.slice va 0 vcap) []) (hu : atT t [] = some u) : Calls Tryz.prog 50 #[cval c, .slice va 0 vcap, .int .u8 ax] w (ArSays t [] ax u base w) := by
  have L0 := Lib.hid (ASt.start w c)
  have HPR := Lib.hid hp
  have HAT2 := Lib.hid (atO_any t u c (.slice va 0 vcap) [] (cellW w c) (L0.out.is hi) (hp.1.up L0.out.below) (by simp) hu)
  clear hp hu hi
  have HAXK : Hid ((if ax = 2 then (3 : Int) else 2) = if (ax == 2) = true then 3 else 2) := Lib.hid (by simp)
  obtain ⟨q0, q1, q2, q3, q4, q5, q6⟩ := c7_of L0.out.box.cat
  go_enter Tryz.func50, Tryz.ntmps50
  go_wp2_with fail
  refine HAT2.out.mono ?_
  rintro e w4 ⟨d4, S4, rfl, hown, hnd, hb4⟩
  have L4 := Lib.hid (L0.out.up hb4)
  have O4 := Lib.hid hown
  have ND4 := Lib.hid hnd
  have HB4 : Hid (w.heap.size + 2 ≤ (cellW w c).heap.size) := Lib.hid (by simp)
  clear hown hnd hb4 q0 q1 q2 q3 q4 q5 q6
  rcases Bool.eq_false_or_eq_true (ax == 2) with hq2 | hq2
  · obtain ⟨S', hnd', hgrp⟩ := grp_group (c := c) (ax := ax) (kd := 3) L4.out HB4.out O4.out (Below.refl _ _) ND4.out (by rw [HAXK.out, hq2]; rfl)
    have P := Lib.hid hgrp
    have NDP := Lib.hid hnd'
    clear hgrp hnd'
    go_upto_region 10 with (fail)
    change Code.wp _ _ _ _ (((w4.alloc (cbox d4)).alloc (cbox d4)).alloc (cbox (grpC 3 d4.r (w4.heap.size + 1))))
    generalize (((w4.alloc (cbox d4)).alloc (cbox d4)).alloc (cbox (grpC 3 d4.r (w4.heap.size + 1)))) = W5 at P ⊢
    obtain ⟨⟨z0, z1, z2, z3, z4, z5, z6⟩, f0, f1, f2, f3, f4, f5, f6⟩ := zero_parts P.out.st.zero
    obtain ⟨q0, q1, q2, q3, q4, q5, q6⟩ := c7_of P.out.box.cat
    have hfar := P.out.far
    go_wp2
    (try simp only [Exit.inBlock, Exit.then])
    refine bodyPost_ret (results_c3 rfl _ (put7 W5 (w.heap.size + 1) (grpC 3 d4.r (w4.heap.size + 1))) (w.heap.size + 1) (grpC 3 d4.r (w4.heap.size + 1)) rfl ((Box7.of_zero P.out.st.zero).put (grpC 3 d4.r (w4.heap.size + 1)))) rfl ?_
    exact ar_end (pl := []) rfl P.out HPR.out (.inr ⟨rfl, rfl, rfl, (.inl rfl)⟩) NDP.out
  · obtain ⟨S', hnd', hgrp⟩ := grp_group (c := c) (ax := ax) (kd := 2) L4.out HB4.out O4.out (Below.refl _ _) ND4.out (by rw [HAXK.out, hq2]; rfl)
    have P := Lib.hid hgrp
    have NDP := Lib.hid hnd'
    clear hgrp hnd'
    go_upto_region 10 with (fail)
    change Code.wp _ _ _ _ (((w4.alloc (cbox d4)).alloc (cbox d4)).alloc (cbox (grpC 2 d4.r (w4.heap.size + 1))))
    generalize (((w4.alloc (cbox d4)).alloc (cbox d4)).alloc (cbox (grpC 2 d4.r (w4.heap.size + 1)))) = W5 at P ⊢
    obtain ⟨⟨z0, z1, z2, z3, z4, z5, z6⟩, f0, f1, f2, f3, f4, f5, f6⟩ := zero_parts P.out.st.zero
    obtain ⟨q0, q1, q2, q3, q4, q5, q6⟩ := c7_of P.out.box.cat
    have hfar := P.out.far
    go_wp2
    (try simp only [Exit.inBlock, Exit.then])
    refine bodyPost_ret (results_c3 rfl _ (put7 W5 (w.heap.size + 1) (grpC 2 d4.r (w4.heap.size + 1))) (w.heap.size + 1) (grpC 2 d4.r (w4.heap.size + 1)) rfl ((Box7.of_zero P.out.st.zero).put (grpC 2 d4.r (w4.heap.size + 1)))) rfl ?_
    exact ar_end (pl := []) rfl P.out HPR.out (.inr ⟨rfl, rfl, rfl, (.inl rfl)⟩) NDP.out

theorem around_any (t u : T) (c : C) (p : List Int) (va : Option Addr) (vcap base : Nat) (ax : Int) (w : World) (hi : Is w c t) (hp : PRow w base (.slice va p.length vcap) p) (hpl : p.length ≤ 1000000) (hu : atT t p = some u) (hax : ax = 1 ∨ ax = 2) :
    Calls Tryz.prog 50 #[cval c, .slice va p.length vcap, .int .u8 ax] w (ArSays t p ax u base w) := by
  rcases List.eq_nil_or_concat p with rfl | ⟨q, m, rfl⟩
  · exact around_c t u c va vcap base ax w hi hp hu
  · rw [List.concat_eq_append] at hp hpl hu ⊢
    have hu' := hu
    rw [atT_append] at hu'
    cases hq : atT t q with
    | none => rw [hq] at hu'; cases hu'
    | some g =>
      rw [hq] at hu'
      simp only [atT] at hu'
      cases hk : kidAt g m with
      | none => rw [hk] at hu'; cases hu'
      | some v =>
        obtain ⟨j, rfl, -⟩ := kid_some hk
        have hl : (q ++ [(j : Int)]).length = q.length + 1 := by simp
        rw [hl] at hp hpl ⊢
        cases ha : alB g.k ax with
        | true => exact around_a t u g c q j va vcap base ax w hi hp hpl hq ha
        | false => exact around_b t u g c q j va vcap base ax w hi hp hpl hq ha hu hax
theorem around_kid {t u g : T} {p pl : List Int} {ax : Int} {k : Nat} (h : Around t p ax u g pl k) (hu : atT t p = some u) : g.kids[k]? = some u := by
  rcases h with ⟨q, j, rfl, hg, -, rfl, rfl⟩ | ⟨rfl, -, rfl, -⟩
  · rw [atT_append, hg] at hu
    simp only [atT] at hu
    cases hk : kidAt g (k : Int) with
    | none => rw [hk] at hu; cases hu
    | some v =>
      rw [hk] at hu
      obtain ⟨i, hi, hv⟩ := kid_some hk
      have : i = k := by omega
      subst this
      cases hu
      exact hv
  · rfl
end Go.Proofs.YtbbjnimadnbmnaaGreat
/- A tree that is set elsewhere: it tiles there, too; and it is adjusted as it was. No walk. -/
namespace Go.Proofs.YtbbjnimadnbmnaaGreat
open Go.RowKit

theorem setL_ws (k : Int) (l : List T) : ∀ x y, (setL k x y l).map (fun t => t.r.w) = l.map fun t => t.r.w := by
  induction l with
  | nil => intro x y; simp [setL]
  | cons t l ih =>
    intro x y
    rw [setL, List.map_cons, List.map_cons, ih, setT_eq]; rfl
theorem setL_hs (k : Int) (l : List T) : ∀ x y, (setL k x y l).map (fun t => t.r.h) = l.map fun t => t.r.h := by
  induction l with
  | nil => intro x y; simp [setL]
  | cons t l ih =>
    intro x y
    rw [setL, List.map_cons, List.map_cons, ih, setT_eq]; rfl
theorem set_r (x y : Int) (t : T) : (setT x y t).r = ⟨x, y, t.r.w, t.r.h⟩ := by rw [setT_eq]; rfl
theorem set_szA (x y ax : Int) (t : T) : szA (setT x y t).r ax = szA t.r ax := by rw [set_r]; rfl
theorem nxX_w {k x : Int} {t u : T} (h : t.r.w = u.r.w) : nxX k x t = nxX k x u := by unfold nxX; rw [h]
theorem nxY_h {k y : Int} {t u : T} (h : t.r.h = u.r.h) : nxY k y t = nxY k y u := by unfold nxY; rw [h]

mutual
theorem ls_set (ax : Int) : ∀ (x y : Int) (t : T), lsT ax (setT x y t) = lsT ax t
  | x, y, .node k r i l => by
    have h1 := setL_length k l x y
    have h2 : (setL k x y l).isEmpty = l.isEmpty := by
      cases l with
      | nil => simp [setL]
      | cons t l => simp [setL]
    rw [setT, lsT, lsT, lsS_set ax k x y l, lsX_set ax k x y l, h1, h2]
theorem lsS_set (ax k : Int) : ∀ (x y : Int) (l : List T), lsS ax (setL k x y l) = lsS ax l
  | x, y, [] => by simp [setL]
  | x, y, t :: l => by rw [setL, lsS, lsS, ls_set ax x y t, lsS_set ax k _ _ l]
theorem lsX_set (ax k : Int) : ∀ (x y : Int) (l : List T), lsX ax (setL k x y l) = lsX ax l
  | x, y, [] => by simp [setL]
  | x, y, t :: l => by rw [setL, lsX, lsX, ls_set ax x y t, lsX_set ax k _ _ l]
end
theorem gv_set (ax x y : Int) (t : T) : gvT ax (setT x y t) = gvT ax t := by unfold gvT; rw [set_szA, ls_set]
theorem gvs_set (ax k : Int) (l : List T) : ∀ x y, (setL k x y l).map (gvT ax) = l.map (gvT ax) := by
  induction l with
  | nil => intro x y; simp [setL]
  | cons t l ih =>
    intro x y
    rw [setL, List.map_cons, List.map_cons, ih, gv_set]
theorem adjR_w {ax b x y : Int} {r : R} : (adjR ax b ⟨x, y, r.w, r.h⟩).w = (adjR ax b r).w ∧ (adjR ax b ⟨x, y, r.w, r.h⟩).h = (adjR ax b r).h := by
  unfold adjR; split <;> exact ⟨rfl, rfl⟩
theorem adjT_r (ax b : Int) (t : T) : (adjT ax b t).r = adjR ax b t.r := by rw [adjT_eq]; rfl
mutual
/-- Wherever it stood. -/
theorem adj_set (ax : Int) : ∀ (b x y a c : Int) (t : T), setT a c (adjT ax b (setT x y t)) = setT a c (adjT ax b t)
  | b, x, y, a, c, .node k r i l => by
    have h1 := @adjR_w ax b x y r
    rw [setT, adjT, adjT, setT, setT, gvs_set, h1.1, h1.2, adjL_set ax k k]
theorem adjL_set (ax k k' : Int) : ∀ (s : Nat → Int) (x y a c : Int) (l : List T), setL k' a c (adjL ax s (setL k x y l)) = setL k' a c (adjL ax s l)
  | s, x, y, a, c, [] => by simp [setL]
  | s, x, y, a, c, t :: l => by
    have h1 : (adjT ax (s 0) (setT x y t)).r.w = (adjT ax (s 0) t).r.w := by rw [adjT_r, adjT_r, set_r]; exact adjR_w.1
    have h2 : (adjT ax (s 0) (setT x y t)).r.h = (adjT ax (s 0) t).r.h := by rw [adjT_r, adjT_r, set_r]; exact adjR_w.2
    rw [setL, adjL, adjL, setL, setL, adj_set ax (s 0) x y a c t, nxX_w h1, nxY_h h2, adjL_set ax k k']
end
mutual
theorem set_set : ∀ (x y a c : Int) (t : T), setT a c (setT x y t) = setT a c t
  | x, y, a, c, .node k r i l => by rw [setT, setT, setT, setL_set k k]
theorem setL_set (k k' : Int) : ∀ (x y a c : Int) (l : List T), setL k' a c (setL k x y l) = setL k' a c l
  | x, y, a, c, [] => by simp [setL]
  | x, y, a, c, t :: l => by
    have h1 : (setT x y t).r.w = t.r.w := by rw [set_r]
    have h2 : (setT x y t).r.h = t.r.h := by rw [set_r]
    rw [setL, setL, setL, set_set x y a c t, nxX_w h1, nxY_h h2, setL_set k k']
end

/-- A kid of what tiles is inside it. -/
theorem kid_in {t : T} (hs : sz t ≤ 20000) (ht : tileB t = true) {j : Nat} {u : T} (hu : t.kids[j]? = some u) : t.r.x ≤ u.r.x ∧ u.r.x + u.r.w ≤ t.r.x + t.r.w ∧ t.r.y ≤ u.r.y ∧ u.r.y + u.r.h ≤ t.r.y + t.r.h := by
  obtain ⟨hw, hf⟩ := tile_top hs ht
  have hr := may_rect (well_rect hw)
  have hjl := (List.getElem?_eq_some_iff.1 hu).1
  obtain h1 | ⟨⟨-, hcut⟩, hrects⟩ := (fitB_iff t).1 hf
  · rw [leaf_none hs ht h1] at hu; simp at hu
  · have hlen : (sizesT t).length = t.kids.length := sizes_len t
    have hat : (cutParts t.r (axT t) (sizesT t) true)[j]? = some u.r := by rw [← hrects, List.getElem?_map, hu]; rfl
    have hm : (sizesT t)[j]? = some ((sizesT t).getD j 0) := by rw [List.getD_eq_getElem?_getD, List.getElem?_eq_getElem (by omega)]; rfl
    generalize (sizesT t).getD j 0 = m at hm
    have hgd : (sizesT t).getD j 0 = m := by rw [List.getD_eq_getElem?_getD, hm]; rfl
    rcases well_kind hw with h | h | h
    · rw [leaf_none hs ht h] at hu; simp at hu
    · have ha : axT t = 1 := by unfold axT; rw [if_neg (by omega)]
      rw [ha] at hcut hat
      have hfill : fillP t.r.w (sizesT t) := by
        rcases hcut with ⟨-, h⟩ | ⟨h, -⟩
        · exact h
        · omega
      rw [cutParts, if_pos rfl, parts_at _ _ _ _ _ (by omega)] at hat
      have h4 := Option.some.inj hat
      have h5 := hfill.1 j m (by omega) hm
      have h6 := off_nonneg hfill.1 j (by omega) (by omega)
      unfold partK at h4
      rw [hgd] at h4
      rw [← h4]
      simp only [id]
      omega
    · have ha : axT t = 2 := by unfold axT; rw [if_pos h]
      rw [ha] at hcut hat
      have hfill : fillP t.r.h (sizesT t) := by
        rcases hcut with ⟨h, -⟩ | ⟨-, h⟩
        · omega
        · exact h
      rw [cutParts, if_neg (by decide), parts_at _ _ _ _ _ (by omega)] at hat
      have h4 := Option.some.inj hat
      have h5 := hfill.1 j m (by omega) hm
      have h6 := off_nonneg hfill.1 j (by omega) (by omega)
      unfold partK turnR at h4
      rw [hgd] at h4
      rw [← h4]
      simp only
      omega
theorem pX_shift {k d : Int} : ∀ (l : List T) {A B : Int}, IntKind.i64.wrap A = IntKind.i64.wrap (B + d) → IntKind.i64.wrap (pX k A l) = IntKind.i64.wrap (pX k B l + d)
  | [], _, _, h => h
  | t :: l, A, B, h => by
    show IntKind.i64.wrap (pX k (nxX k A t) l) = IntKind.i64.wrap (pX k (nxX k B t) l + d)
    refine pX_shift l ?_
    unfold nxX
    split
    · simp only [IntKind.wrap_i64] at *; omega
    · exact h
theorem pY_shift {k d : Int} : ∀ (l : List T) {A B : Int}, IntKind.i64.wrap A = IntKind.i64.wrap (B + d) → IntKind.i64.wrap (pY k A l) = IntKind.i64.wrap (pY k B l + d)
  | [], _, _, h => h
  | t :: l, A, B, h => by
    show IntKind.i64.wrap (pY k (nxY k A t) l) = IntKind.i64.wrap (pY k (nxY k B t) l + d)
    refine pY_shift l ?_
    unfold nxY
    split
    · simp only [IntKind.wrap_i64] at *; omega
    · exact h
/-- Where it stands elsewhere. -/
theorem kid_shift {t : T} (hs : sz t ≤ 20000) (ht : tileB t = true) {j : Nat} {u : T} (hu : t.kids[j]? = some u) {x y : Int} (hx : 0 ≤ x ∧ x ≤ 10000) (hy : 0 ≤ y ∧ y ≤ 10000) : pX t.k x (t.kids.take j) = u.r.x + (x - t.r.x) ∧ pY t.k y (t.kids.take j) = u.r.y + (y - t.r.y) := by
  obtain ⟨h1, h2⟩ := fit_at hs ht hu
  have h3 := may_rect (well_rect (tile_top hs ht).1)
  have h4 := kid_in hs ht hu
  have h5 := sz_kid hu
  have h6 := may_rect (well_rect (tile_top (by omega) (tile_kid hs ht hu)).1)
  have g1 := pX_shift (k := t.k) (d := x - t.r.x) (t.kids.take j) (A := x) (B := t.r.x) (by congr 1; omega)
  have g2 := pY_shift (k := t.k) (d := y - t.r.y) (t.kids.take j) (A := y) (B := t.r.y) (by congr 1; omega)
  have f1 : fits (pX t.k x (t.kids.take j)) := pX_fits _ (by unfold fits; omega)
  have f2 : fits (pY t.k y (t.kids.take j)) := pY_fits _ (by unfold fits; omega)
  unfold fits at f1 f2
  rw [wrap_id f1, h1, wrap_id (by omega)] at g1
  rw [wrap_id f2, h2, wrap_id (by omega)] at g2
  exact ⟨g1, g2⟩

theorem mem_preL {u : T} : ∀ {l : List T}, u ∈ preL l → ∃ (j : Nat) (t : T), l[j]? = some t ∧ u ∈ preT t
  | [], h => by rw [preL] at h; cases h
  | t :: l, h => by
    rw [preL] at h
    rcases List.mem_append.1 h with h | h
    · exact ⟨0, t, rfl, h⟩
    · obtain ⟨j, v, h1, h2⟩ := mem_preL h
      exact ⟨j + 1, v, by simpa using h1, h2⟩
theorem cut_shift {r : R} {ax : Int} {ms : List Int} {x y : Int} {j : Nat} {q : R} (h : (cutParts r ax ms true)[j]? = some q) : (cutParts ⟨x, y, r.w, r.h⟩ ax ms true)[j]? = some ⟨q.x + (x - r.x), q.y + (y - r.y), q.w, q.h⟩ := by
  have hj := (List.getElem?_eq_some_iff.1 h).1
  rw [parts_len] at hj
  rw [cutParts] at h ⊢
  split
  · rename_i ha
    rw [if_pos ha, parts_at _ _ _ _ _ hj] at h
    rw [parts_at _ _ _ _ _ hj, ← Option.some.inj h]
    unfold partK
    simp only [id]
    congr 2 <;> omega
  · rename_i ha
    rw [if_neg ha, parts_at _ _ _ _ _ hj] at h
    rw [parts_at _ _ _ _ _ hj, ← Option.some.inj h]
    unfold partK turnR
    simp only
    congr 2 <;> omega
/-- Each cell of it is as it should be there. -/
theorem good_set (N : Nat) : ∀ (t : T) (x y : Int), sz t ≤ N → sz t ≤ 20000 → tileB t = true → 0 ≤ x → x + t.r.w ≤ 10000 → 0 ≤ y → y + t.r.h ≤ 10000 → ∀ u ∈ preT (setT x y t), wellT u = true ∧ fitB u = true := by
  induction N with
  | zero => intro t x y h; have := sz_pos t; omega
  | succ N ih =>
    intro t x y hN hs ht hx0 hx1 hy0 hy1 u hu
    obtain ⟨hw, hf⟩ := tile_top hs ht
    have hr := may_rect (well_rect hw)
    have hmay : mayB ⟨x, y, t.r.w, t.r.h⟩ = true := (mayB_iff _).2 ⟨⟨hx0, hr.2.2.1, hx1⟩, hy0, hr.2.2.2.1, hy1⟩
    rw [preT_eq] at hu
    rcases List.mem_cons.1 hu with rfl | hu
    · rw [setT_eq]
      constructor
      · unfold wellT at hw ⊢
        show wellB t.k ⟨x, y, t.r.w, t.r.h⟩ t.id (setL t.k x y t.kids).length = true
        rw [setL_length]
        unfold wellB at hw ⊢
        rw [Bool.and_eq_true] at hw ⊢
        exact ⟨hmay, hw.2⟩
      · refine (fitB_iff _).2 ?_
        obtain h1 | ⟨⟨-, hcut⟩, hrects⟩ := (fitB_iff t).1 hf
        · exact .inl h1
        · right
          have hax : axT (.node t.k ⟨x, y, t.r.w, t.r.h⟩ t.id (setL t.k x y t.kids)) = axT t := rfl
          have hss : sizesT (.node t.k ⟨x, y, t.r.w, t.r.h⟩ t.id (setL t.k x y t.kids)) = sizesT t := by
            unfold sizesT wsT hsT
            show (if t.k = 3 then (setL t.k x y t.kids).map (fun u => u.r.h) else (setL t.k x y t.kids).map (fun u => u.r.w)) = _
            rw [setL_ws, setL_hs]
          rw [hax, hss]
          refine ⟨⟨hmay, hcut⟩, ?_⟩
          refine List.ext_getElem? fun j => ?_
          rw [List.getElem?_map]
          show ((setL t.k x y t.kids)[j]?).map T.r = (cutParts ⟨x, y, t.r.w, t.r.h⟩ (axT t) (sizesT t) true)[j]?
          rw [setL_get]
          cases hv : t.kids[j]? with
          | none =>
            have : (cutParts ⟨x, y, t.r.w, t.r.h⟩ (axT t) (sizesT t) true).length = t.kids.length := by rw [parts_len, sizes_len]
            rw [List.getElem?_eq_none_iff] at hv
            rw [List.getElem?_eq_none (by omega)]
            rfl
          | some v =>
            have hat : (cutParts t.r (axT t) (sizesT t) true)[j]? = some v.r := by rw [← hrects, List.getElem?_map, hv]; rfl
            obtain ⟨h1, h2⟩ := kid_shift hs ht hv (x := x) (y := y) ⟨hx0, by omega⟩ ⟨hy0, by omega⟩
            rw [cut_shift hat]
            simp only [Option.map_some]
            rw [set_r, h1, h2]
    · obtain ⟨j, v', hv', hu⟩ := mem_preL hu
      rw [setT_eq] at hv'
      have hv' : (setL t.k x y t.kids)[j]? = some v' := hv'
      rw [setL_get] at hv'
      cases hv : t.kids[j]? with
      | none => rw [hv] at hv'; cases hv'
      | some v =>
        rw [hv] at hv'
        obtain ⟨h1, h2⟩ := kid_shift hs ht hv (x := x) (y := y) ⟨hx0, by omega⟩ ⟨hy0, by omega⟩
        have h3 := kid_in hs ht hv
        have h4 := sz_kid hv
        rw [h1, h2] at hv'
        cases hv'
        exact ih v _ _ (by omega) (by omega) (tile_kid hs ht hv) (by omega) (by omega) (by omega) (by omega) u hu
mutual
theorem ids_set : ∀ (x y : Int) (t : T), idsP (preT (setT x y t)) = idsP (preT t)
  | x, y, .node k r i l => by rw [setT, preT, preT, idsP_cons, idsP_cons, idsL_set k x y l]; rfl
theorem idsL_set (k : Int) : ∀ (x y : Int) (l : List T), idsP (preL (setL k x y l)) = idsP (preL l)
  | x, y, [] => by simp [setL]
  | x, y, t :: l => by rw [setL, preL, preL, idsP_append, idsP_append, ids_set x y t, idsL_set k _ _ l]
end
/-- It tiles there, too. -/
theorem set_tile {t : T} {x y : Int} (hs : sz t ≤ 20000) (ht : tileB t = true) (hx0 : 0 ≤ x) (hx1 : x + t.r.w ≤ 10000) (hy0 : 0 ≤ y) (hy1 : y + t.r.h ≤ 10000) : tileB (setT x y t) = true := by
  have hg := good_set (sz t) t x y (Nat.le_refl _) hs ht hx0 hx1 hy0 hy1
  have hon := once_tile hs ht
  have hid := ids_set x y t
  have hsz := setT_sz x y t
  unfold tileB
  rw [may_is (by omega)]
  unfold rmayT
  rw [Bool.and_eq_true, Bool.and_eq_true, decide_eq_true_eq, List.all_eq_true, List.all_eq_true]
  refine ⟨⟨fun u hu => (hg u hu).1, ?_⟩, fun u hu => (hg u hu).2⟩
  unfold onceI at hon
  unfold idsP at hid
  rw [hid]
  exact hon
end Go.Proofs.YtbbjnimadnbmnaaGreat
